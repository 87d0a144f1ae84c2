import PyProof.Rows.All
import Wide.All
import OpenK.AllK
import Wide.FinOn
import Lean
import PyProof.EqAt
import PyProof.EqKinds
import PyProof.TupleCall
import PySem.Challenge.RW_royaltree_k38_things_that_are_no_stateme
set_option Elab.async false
set_option linter.all false
set_option maxRecDepth 100000
namespace L2
open PySem PySem.Spec PyProof.Rows
abbrev Key:=Sum Int Str
def keyIs:Key->Value->Bool
 | .inl k,v=>Value.isInt k v
 | .inr x,v=>Value.isStrOf x v
def keyH (w:World):Key->Int
 | .inl k=>hashInt k
 | .inr x=>hashStr w x
theorem keyIs_shape:∀ {k:Key}{v:Value},keyIs k v=true->(∃ i t,k=Sum.inl i/\v=Value.int i t)∨(∃ x t,k=Sum.inr x/\v=Value.str x t)
 | .inl i,v,h=>by
  obtain⟨t,e⟩:=Value.isInt_shape (k:=i) (v:=v) h
  exact .inl ⟨i,t,rfl,e⟩
 | .inr x,v,h=>by
  obtain⟨t,e⟩:=Value.isStrOf_shape (x:=x) (v:=v) h
  exact .inr ⟨x,t,rfl,e⟩
theorem keyIs_int (i:Int)(t:Tok):keyIs (.inl i) (.int i t)=true:=by simp[keyIs,Value.isInt]
theorem keyIs_str (x:Str)(t:Tok):keyIs (.inr x) (.str x t)=true:=by simp[keyIs,Value.isStrOf]
theorem key_ll (a b:Int):decide ((Sum.inl a:Key)=Sum.inl b)=(a == b):=by
 by_cases e:a=b
 ·subst e;simp
 ·have h:¬ (Sum.inl a:Key)=Sum.inl b:=λ q=>e (Sum.inl.inj q)
  rw[decide_eq_false h]
  exact(beq_eq_false_iff_ne.mpr e).symm
theorem key_rr (a b:Str):decide ((Sum.inr a:Key)=Sum.inr b)=decide (a=b):=by
 by_cases e:a=b
 ·subst e;simp
 ·have h:¬ (Sum.inr a:Key)=Sum.inr b:=λ q=>e (Sum.inr.inj q)
  rw[decide_eq_false h,decide_eq_false e]
theorem key_lr (a:Int)(b:Str):decide ((Sum.inl a:Key)=Sum.inr b)=false:=decide_eq_false (λ q=>nomatch q)
theorem key_rl (a:Str)(b:Int):decide ((Sum.inr a:Key)=Sum.inl b)=false:=decide_eq_false (λ q=>nomatch q)
def mixKind (prog:Program)(w:World):PySem.KeyKind prog w Key where
 is:=keyIs
 hash:=keyH w
 inj:=λ v a b ha hb=>by
  rcases keyIs_shape ha with⟨i,t,rfl,rfl⟩|⟨x,t,rfl,rfl⟩
  ·rcases keyIs_shape hb with⟨j,u,rfl,e⟩|⟨y,u,rfl,e⟩
   ·injection e with e1 _;rw[e1]
   ·exact nomatch e
  ·rcases keyIs_shape hb with⟨j,u,rfl,e⟩|⟨y,u,rfl,e⟩
   ·exact nomatch e
   ·injection e with e1 _;rw[e1]
 byValue:=λ k v h=>by
  rcases keyIs_shape h with⟨i,t,rfl,rfl⟩|⟨x,t,rfl,rfl⟩<;>rfl
 pyHash:=λ hv h=>by
  rcases keyIs_shape hv with⟨i,t,rfl,rfl⟩|⟨x,t,rfl,rfl⟩
  ·exact wpAny_pyHash_int h
  ·exact wpAny_pyHash_str h
 eqBool:=λ hu hv h=>by
  rcases keyIs_shape hu with⟨i,t,rfl,rfl⟩|⟨x,t,rfl,rfl⟩
  ·rcases keyIs_shape hv with⟨j,u,rfl,rfl⟩|⟨y,u,rfl,rfl⟩
   ·rw[key_ll]at h;exact wpAny_eqBool_int h
   ·rw[key_lr]at h;exact SeqAt.EqAt.int_str i t y u _ _ _ _ h
  ·rcases keyIs_shape hv with⟨j,u,rfl,rfl⟩|⟨y,u,rfl,rfl⟩
   ·rw[key_rl]at h;exact SeqAt.EqAt.str_int x t j u _ _ _ _ h
   ·rw[key_rr]at h;exact wpAny_eqBool_str h
 «strs»:=λ k x t v h=>by
  rcases keyIs_shape h with⟨i,u,rfl,e⟩|⟨y,u,rfl,e⟩
  ·exact nomatch e
  ·injection e with e1 _
   subst e1
   cases v<;>rfl
theorem mixKind_int (prog:Program)(w:World)(i:Int)(t:Tok):(mixKind prog w).is (.inl i) (.int i t)=true:=keyIs_int i t
theorem mixKind_str (prog:Program)(w:World)(x:Str)(t:Tok):(mixKind prog w).is (.inr x) (.str x t)=true:=keyIs_str x t
end L2
namespace L2
open PySem PySem.Spec PyProof.Rows
inductive V where
 | non|bl (b:Bool)|int (i:Int)|str (x:Str)|byt (b:Array UInt8)|flt (b:UInt64)|ref (a:Addr)|ty (n:String)
 deriving DecidableEq
def RelV:V->Value->Prop
 | .non,u=>u=Value.none
 | .bl b,u=>u=Value.bool b
 | .int i,u=>∃ t,u=Value.int i t
 | .str x,u=>∃ t,u=Value.str x t
 | .byt b,u=>∃ t,u=Value.bytes b t
 | .flt b,u=>∃ t,u=Value.float b t
 | .ref a,u=>u=Value.ref a
 | .ty n,u=>u=Value.type n
abbrev Vals:List V->List Value->Prop:=Paired RelV
theorem Vals.length {xs:List V}{us:List Value}(r:Vals xs us):xs.length=us.length:=Paired.length r
theorem Vals.get:∀ {xs:List V}{us:List Value}{i:Nat}{x:V},Vals xs us->xs[i]? = some x->∃ u,us[i]? = some u/\RelV x u
 | _,_,_,_,.nil,e=>by simp at e
 | _,_,0,_,.cons r _,e=>by simp at e;subst e;exact⟨_,rfl,r⟩
 | _,_,i+1,x,.cons _ t,e=>by
  obtain⟨u,h1,h2⟩:=Vals.get (i:=i) (x:=x) t (by simpa using e)
  exact⟨u,by simpa using h1,h2⟩
theorem Vals.set {x:V}{u:Value}(r:RelV x u):∀ {xs:List V}{us:List Value}(i:Nat),Vals xs us->Vals (xs.set i x) (us.set i u)
 | _,_,_,.nil=>.nil
 | _,_,0,.cons _ t=>.cons r t
 | _,_,i+1,.cons q t=>.cons q (Vals.set r i t)
theorem Vals.append:∀ {xs ys:List V}{us ws:List Value},Vals xs us->Vals ys ws->Vals (xs++ys) (us++ws)
 | _,_,_,_,.nil,s=>s
 | _,_,_,_,.cons r t,s=>.cons r (Vals.append t s)
theorem Vals.take:∀ {xs:List V}{us:List Value}(n:Nat),Vals xs us->Vals (xs.take n) (us.take n)
 | _,_,0,_=>.nil
 | _,_,_+1,.nil=>.nil
 | _,_,n+1,.cons r t=>.cons r (Vals.take n t)
theorem Vals.drop:∀ {xs:List V}{us:List Value}(n:Nat),Vals xs us->Vals (xs.drop n) (us.drop n)
 | _,_,0,r=>r
 | _,_,_+1,.nil=>.nil
 | _,_,n+1,.cons _ t=>Vals.drop n t
def RelO:Option V->Option Value->Prop
 | some v,some u=>RelV v u
 | none,none=>True
 | _,_=>False
def KV {κ:Type}:List (κ × V)->List (κ × Value)->Prop:=Paired λ(p:κ × V) (q:κ × Value)=>p.1=q.1/\RelV p.2 q.2
def kV:Key->V
 | .inl i=>.int i
 | .inr x=>.str x
inductive HO where
 | lst (xs:List V)
 | tup (xs:List V)
 | dK (kvs:List (Key × V))|dT (kvs:List (List Key × V))
 | set (S:Int->Bool) (n:Nat)
 | ins (C dx:Addr) (fs:List (Str × V))
 | own (x:Addr)
 | xd (fs:List (Str × V))
 | met (f x:Addr)
 | rng (lo hi:Int)
 | frz (o:Obj) (u:HO)
 | tbl (ps:Array Value)
 | ext (φ:Heap->Prop)
abbrev Hp:=Addr->Option HO
def upd (H:Hp)(a:Addr)(o:HO):Hp:=λ b=>if b=a then some o else H b
theorem upd_same {H:Hp}{a:Addr}{o:HO}:upd H a o a=some o:=by unfold upd;rw[if_pos rfl]
theorem upd_ne {H:Hp}{a b:Addr}{o:HO}(h:b≠a):upd H a o b=H b:=by unfold upd;rw[if_neg h]
theorem ne_of {H:Hp}{a b:Addr}{o u:HO}(h:H a=some o)(h':H b=some u)(d:o≠u):a≠b:=by
 intro e;subst e;rw[h]at h';exact d (Option.some.inj h')
theorem ne_of_none {H:Hp}{a b:Addr}{o:HO}(h:H a=some o)(h':H b=none):a≠b:=by
 intro e;subst e;rw[h]at h';cases h'
section
variable (P:Program)(w:World)
def ObjOk (H:Hp)(h:Heap)(a:Addr):HO->Prop
 | .lst xs=>xs.length<=sizeLine/\∃ (its:List Value) (n:Nat),Vals xs its/\h.get? a=some { cls:=.type "list",data:=.seq its.toArray n }
 | .tup xs=>xs.length<=sizeLine/\∃ its:List Value,Vals xs its/\IsTup h a its.toArray
 | .dK kvs=>kvs.length<=sizeLine/\(a == sysModules)=false/\∃ vs,KV kvs vs/\h.DictOf (mixKind P w) a vs
 | .dT kvs=>kvs.length<=sizeLine/\(a == sysModules)=false/\∃ xs:List (List Key × Addr × Value),
   Paired (λ(p:List Key × V) (q:List Key × Addr × Value)=>p.1=q.1/\H q.2.1=some (.tup (p.1.map kV))/\RelV p.2 q.2.2) kvs xs/\
   ∃ o es ep,h.get? a=some o/\o.ExactDict/\o.data=.dict es ep/\es.toList=xs.map (entryOfKey (tupleKind (mixKind P w)))/\(xs.map (·.1)).Nodup
 | .set S n=>h.SetOf (intKind P w) a S n
 | .ins C dx fs=>H dx=some (.own a)/\fs.length<=1000/\dx≠a/\h.get? a=some (PySem.W.instObj C dx)/\
   ∃ mA,h.Ns1 dx mA/\(∀ f,RelO (fs.lookup f) (mA f))/\PySem.Within mA (fs.map (·.1))
 | .own _=>∃ o,h.get? a=some o
 | .xd fs=>∃ mA,h.Ns1 a mA/\∀ f,RelO (fs.lookup f) (mA f)
 | .rng lo hi=>∃ t u v,h.get? a=some { cls:=.type "range",data:=.fields #[.int lo t,.int hi u,.int 1 v] }
 | .frz o u=>h.get? a=some o/\ObjOk H h a u
 | .tbl ps=>h.get? a=some { cls:=.none,data:=.fields ps }
 | .met f x=>h.get? a=some (PySem.W.methodObj (.ref f) (.ref x))
 | .ext φ=>φ h/\(∃ o,h.get? a=some o)/\∀ h1 h2:Heap,φ h1->(∀ o,h1.get? a=some o->h2.get? a=some o)->φ h2
def HOk (H:Hp)(h:Heap):Prop:=∀ a o,H a=some o->ObjOk P w H h a o
end
section
variable {P:Program}{w:World}{H H':Hp}{h h':Heap}{a:Addr}{o:HO}
theorem ObjOk.lt (x:ObjOk P w H h a o):a < h.objs.size:=by
 cases o with
 | lst xs=>obtain⟨_,_,_,_,e⟩:=x;exact Heap.lt_size e
 | tup xs=>obtain⟨_,_,_,p⟩:=x;exact p.lt
 | dK kvs=>obtain⟨_,_,_,_,o,_,_,e,_⟩:=x;exact Heap.lt_size e
 | dT kvs=>obtain⟨_,_,_,_,o,_,_,e,_⟩:=x;exact Heap.lt_size e
 | set S n=>obtain⟨o,_,_,_,e,_⟩:=x;exact Heap.lt_size e
 | ins C dx fs=>obtain⟨_,_,_,e,_⟩:=x;exact Heap.lt_size e
 | own y=>obtain⟨_,e⟩:=x;exact Heap.lt_size e
 | xd fs=>obtain⟨_,⟨_,_,_,e,_⟩,_⟩:=x;exact Heap.lt_size e
 | rng lo hi=>obtain⟨_,_,_,e⟩:=x;exact Heap.lt_size e
 | frz ob u=>obtain⟨e,_⟩:=x;exact Heap.lt_size e
 | tbl ps=>exact Heap.lt_size (show h.get? a=some _ from x)
 | met f y=>exact Heap.lt_size (show h.get? a=some _ from x)
 | ext φ=>obtain⟨_,⟨_,e⟩,_⟩:=x;exact Heap.lt_size e
theorem Paired.mapP {α β:Type}{F G:α->β->Prop}:∀ {l₁:List α}{l₂:List β},Paired F l₁ l₂->(∀ a b,F a b->G a b)->Paired G l₁ l₂
 | _,_,.nil,_=>.nil
 | _,_,.cons r t,f=>.cons (f _ _ r) (Paired.mapP t f)
theorem ObjOk.stay (x:ObjOk P w H h a o)(k:∀ b u,(b=a∨H b=some (.own a))->h.get? b=some u->h'.get? b=some u)
  (ho:∀ b,H b=some (.own a)->H' b=some (.own a)) (ht:∀ b xs,H b=some (.tup xs)->H' b=some (.tup xs)):ObjOk P w H' h' a o:=by
 induction o with
 | lst xs=>obtain⟨z,its,n,r,e⟩:=x;exact⟨z,its,n,r,k _ _ (.inl rfl) e⟩
 | tup xs=>obtain⟨z,its,r,ob,e,c⟩:=x;exact⟨z,its,r,ob,k _ _ (.inl rfl) e,c⟩
 | dK kvs=>obtain⟨z,y,vs,r,ob,es,ep,e,c⟩:=x;exact⟨z,y,vs,r,ob,es,ep,k _ _ (.inl rfl) e,c⟩
 | dT kvs=>
  obtain⟨z,y,xs,r,ob,es,ep,e,c⟩:=x
  exact⟨z,y,xs,Paired.mapP r λ p q z=>⟨z.1,ht _ _ z.2.1,z.2.2⟩,ob,es,ep,k _ _ (.inl rfl) e,c⟩
 | set S n=>obtain⟨ob,es,ep,t,e,c⟩:=x;exact⟨ob,es,ep,t,k _ _ (.inl rfl) e,c⟩
 | ins C dx fs=>
  obtain⟨d,z,ne,e,mA,⟨od,es,ep,e2,c⟩,r⟩:=x
  exact⟨ho _ d,z,ne,k _ _ (.inl rfl) e,mA,⟨od,es,ep,k _ _ (.inr d) e2,c⟩,r⟩
 | own y=>obtain⟨ob,e⟩:=x;exact⟨ob,k _ _ (.inl rfl) e⟩
 | xd fs=>obtain⟨mA,⟨od,es,ep,e,c⟩,r⟩:=x;exact⟨mA,⟨od,es,ep,k _ _ (.inl rfl) e,c⟩,r⟩
 | rng lo hi=>obtain⟨t,u,v,e⟩:=x;exact⟨t,u,v,k _ _ (.inl rfl) e⟩
 | frz ob u ih=>obtain⟨e,q⟩:=x;exact⟨k _ _ (.inl rfl) e,ih q⟩
 | tbl ps=>
  have e:h.get? a=some { cls:=.none,data:=.fields ps }:=x
  show h'.get? a=some { cls:=.none,data:=.fields ps }
  exact k a _ (.inl rfl) e
 | met f y=>
  have e:h.get? a=some (PySem.W.methodObj (.ref f) (.ref y)):=x
  show h'.get? a=some (PySem.W.methodObj (.ref f) (.ref y))
  exact k a _ (.inl rfl) e
 | ext φ=>obtain⟨p,⟨o,e⟩,st⟩:=x;exact⟨st _ _ p λ o q=>k _ _ (.inl rfl) q,⟨o,k _ _ (.inl rfl) e⟩,st⟩
theorem HOk.lt (x:HOk P w H h)(e:H a=some o):a < h.objs.size:=(x a o e).lt
theorem HOk.fresh (x:HOk P w H h)(e:h.objs.size<=a):H a=none:=by
 cases q:H a with
 | none=>rfl
 | some u=>exact absurd (Nat.lt_of_lt_of_le (x.lt q) e) (Nat.lt_irrefl _)
theorem HOk.kept (x:HOk P w H h)(k:∀ b u,h.get? b=some u->h'.get? b=some u):HOk P w H h':=λ a o e=>
 (x a o e).stay (λ b u _ q=>k b u q) (λ _ q=>q) λ _ _ q=>q
theorem HOk.laid (x:HOk P w H h)(k:∀ b u,h.get? b=some u->h'.get? b=some u)(hp:h.objs.size<=a)(new:ObjOk P w (upd H a o) h' a o):HOk P w (upd H a o) h':=λ b u e=>by
 have hn:=x.fresh hp
 by_cases hb:b=a
 ·subst hb;rw[upd_same]at e;cases e;exact new
 ·rw[upd_ne hb]at e
  exact(x b u e).stay (λ c v _ q=>k c v q) (λ c q=>by rw[upd_ne (ne_of_none q hn)];exact q) λ c xs q=>by rw[upd_ne (ne_of_none q hn)];exact q
end
def Rd (H:Hp)(a:Addr)(u:HO):Prop:=H a=some u∨∃ o,H a=some (.frz o u)
theorem Rd.ok {P:Program}{w:World}{H:Hp}{h:Heap}{a:Addr}{u:HO}(r:Rd H a u)(x:HOk P w H h):ObjOk P w H h a u:=by
 rcases r with r|⟨o,r⟩
 ·exact x a u r
 ·obtain⟨_,q⟩:=x a _ r
  exact q
def Mut:Option HO->Prop
 | some (.lst _)=>True
 | some (.dK _)=>True
 | some (.dT _)=>True
 | some (.set _ _)=>True
 | some (.ins _ _ _)=>True
 | some (.ext _)=>True
 | _=>False
section
variable {P:Program}{w:World}{H:Hp}{h h':Heap}{x e:Addr}{o':HO}
theorem HOk.write (ok:HOk P w H h)(mu:Mut (H x)) (he:e=x∨H e=some (.own x)) (k:∀ b u,b≠e->h.get? b=some u->h'.get? b=some u)(heo:∃ u,h'.get? e=some u)
  (new:ObjOk P w (upd H x o') h' x o'):HOk P w (upd H x o') h':=λ b u q=>by
 have nown:∀ c y,H c=some (.own y)->c≠x:=λ c y r z=>by subst z;rw[r]at mu;exact mu
 have ntup:∀ c xs,H c=some (.tup xs)->c≠x:=λ c xs r z=>by subst z;rw[r]at mu;exact mu
 by_cases hb:b=x
 ·subst hb;rw[upd_same]at q;cases q;exact new
 ·rw[upd_ne hb]at q
  by_cases hbe:b=e
  ·have q':H b=some (.own x):=by
    rcases he with z|z
    ·exact absurd (hbe.trans z) hb
    ·rw[hbe];exact z
   rw[q]at q';cases q'
   obtain⟨v,hv⟩:=heo
   exact⟨v,by rw[hbe];exact hv⟩
  ·refine(ok b u q).stay (λ c v hc r=>k c v ?_ r) (λ c r=>by rw[upd_ne (nown c b r)];exact r) λ c xs r=>by rw[upd_ne (ntup c xs r)];exact r
   rcases hc with rfl|hc
   ·exact hbe
   ·rintro rfl
    rcases he with z|z
    ·exact nown c b hc z
    ·rw[hc]at z;cases z;exact hb rfl
end
structure Un (fs ex:List Addr)(H H':Hp)(h h':Heap):Prop where
 keep:∀ b o,h.get? b=some o->H b=none->b∉fs->b∉ex->h'.get? b=some o
 slot:∀ b o,h.get? b=some o->H b=none->b∈fs->b∉ex->∃ sl,h'.get? b=some { o with slots:=sl }
 free:∀ b o,h.get? b=some o->H b=none->b∉ex->H' b=none
 there:∀ b o,h.get? b=some o->b∉ex->∃ o',h'.get? b=some o'
 tups:∀ b xs,H b=some (.tup xs)->H' b=some (.tup xs)
 frzs:∀ b o u,H b=some (.frz o u)->H' b=some (.frz o u)
 tbls:∀ b ps,H b=some (.tbl ps)->∃ more,H' b=some (.tbl (ps++more))
section
variable {fs fs' ex ex':List Addr}{H H1 H2:Hp}{h h1 h2 h':Heap}{a x e:Addr}{o:HO}
theorem Un.any (u:Un fs ex H H1 h h1){b:Addr}{ob:Obj}(q:h.get? b=some ob)(n:H b=none)(hx:b∉ex):∃ sl,h1.get? b=some { ob with slots:=sl }:=by
 by_cases hb:b∈fs
 ·exact u.slot b ob q n hb hx
 ·exact⟨ob.slots,u.keep b ob q n hb hx⟩
theorem Un.kept (k:∀ b u,h.get? b=some u->h'.get? b=some u):Un fs ex H H h h':=
 ⟨λ b ob q _ _ _=>k b ob q,λ b ob q _ _ _=>⟨ob.slots,k b ob q⟩,λ _ _ _ n _=>n,λ b ob q _=>⟨ob,k b ob q⟩,λ _ _ q=>q,λ _ _ _ q=>q,λ _ ps q=>⟨#[],by rw[q];simp⟩⟩
theorem Un.refl:Un fs ex H H h h:=Un.kept λ _ _ q=>q
theorem Un.laid (k:∀ b u,h.get? b=some u->h'.get? b=some u)(hp:h.objs.size<=a)(hn:H a=none):Un fs ex H (upd H a o) h h' where
 keep:=λ b u q _ _ _=>k b u q
 slot:=λ b u q _ _ _=>⟨u.slots,k b u q⟩
 free:=λ b u q n _=>by rw[upd_ne (Nat.ne_of_lt (Nat.lt_of_lt_of_le (Heap.lt_size q) hp))];exact n
 there:=λ b u q _=>⟨u,k b u q⟩
 tups:=λ b xs q=>by rw[upd_ne (ne_of_none q hn)];exact q
 frzs:=λ b u xs q=>by rw[upd_ne (ne_of_none q hn)];exact q
 tbls:=λ b ps q=>⟨#[],by rw[upd_ne (ne_of_none q hn),q];simp⟩
theorem Un.write (mu:Mut (H x)) (he:e=x∨H e=some (.own x)) (k:∀ b u,b≠e->h.get? b=some u->h'.get? b=some u)(heo:∃ u,h'.get? e=some u):Un fs ex H (upd H x o) h h':=by
 have hx:∀ b,H b=none->b≠x:=λ b n z=>by subst z;rw[n]at mu;exact mu
 have hb:∀ b,H b=none->b≠e:=λ b n z=>by
  subst z
  rcases he with r|r
  ·exact hx b n r
  ·rw[n]at r;cases r
 have hm:∀ b u,H b=some u->¬ Mut (some u)->b≠x:=λ b u q nm z=>by subst z;rw[q]at mu;exact nm mu
 refine⟨λ b u q n _ _=>k b u (hb b n) q,λ b u q n _ _=>⟨u.slots,k b u (hb b n) q⟩,λ b u q n _=>by rw[upd_ne (hx b n)];exact n,λ b u q _=>?_,
  λ b xs q=>by rw[upd_ne (hm b _ q λ z=>z)];exact q,λ b u xs q=>by rw[upd_ne (hm b _ q λ z=>z)];exact q,λ b ps q=>⟨#[],by rw[upd_ne (hm b _ q λ z=>z),q];simp⟩⟩
 by_cases hbe:b=e
 ·subst hbe;exact heo
 ·exact⟨u,k b u hbe q⟩
end
def trk (h:Heap)(H:Hp):List Addr:=(List.range h.objs.size).filter λ a=>(H a).isSome
def hidT (h:Heap)(H:Hp):Heap:=PySem.W.hideAll h (trk h H)
theorem hidT_size (h:Heap)(H:Hp):(hidT h H).objs.size=h.objs.size:=PySem.W.hideAll_size _ _
theorem hidT_get {h:Heap}{H:Hp}{b:Addr}{o:Obj}(e:h.get? b=some o)(n:H b=none):(hidT h H).get? b=some o:=
 PySem.W.hideAll_get _ e λ hm=>by
  have q:(H b).isSome=true:=(List.mem_filter.mp hm).2
  rw[n]at q;simp at q
theorem of_hidT {h:Heap}{H:Hp}{b:Addr}{o:Obj}(e:(hidT h H).get? b=some o):h.get? b=some o/\H b=none:=by
 have e':h.get? b=some o:=PySem.W.of_hideAll (trk h H) e
 refine⟨e',?_⟩
 cases q:H b with
 | none=>rfl
 | some x=>
  have hm:b∈trk h H:=List.mem_filter.mpr ⟨List.mem_range.mpr (Heap.lt_size e'),by simp[q]⟩
  have z:(hidT h H).get? b=none:=PySem.W.hideAll_none (trk h H) hm
  rw[z]at e;cases e
end L2
namespace L2
open PySem PySem.Spec PyProof.Rows
structure Mod (K:PySem.W.Frag)(mg:Str->Option Value)(base:Heap):Prop where
 kin:K.In base
 glob:base.Ns mainGlobals mg
 blt:∃ mb,base.Ns builtinsNs mb/\∀ x:Str,x≠"__name__"->mb x=bootBuiltins x
 nolimit:base.NoLimit
 nodig:base.NoDigits
 bmain:∃ bm ob,mg "__builtins__"=some (.ref bm)/\bm≠builtinsNs/\base.get? bm=some ob/\ob.cls=.type "module"/\ob.dict=some builtinsNs/\ob.data=.plain
structure Cx where
 prog:Program
 w:World
 K:PySem.W.Frag
 mg:Str->Option Value
 base:Heap
 A:Around
 N:List Str
 s₀:Shared
 H₀:Hp
 env:Env
 outer:List Env
 stack:List Env
 ex:List Addr
 fn:Str->Bool
 calm:Bool
 pn:List (Addr × Obj)
 xe:Value->Shared->Prop
def frs (l:List Env):List Addr:=l.filterMap (·.frame)
abbrev Cx.fs (X:Cx):List Addr:=frs X.outer
def Vis (sc:Scope)(x:Str):Prop:=sc.names.lookup x=some .local∨sc.names.lookup x=some .cell∨sc.names.lookup x=some .free
def Loc (sc:Scope)(x:Str):Prop:=sc.names.lookup x=some .local∨sc.names.lookup x=some .cell
def Look (env:Env)(h:Heap)(m:Str->Option Value)(x:Str)(u:Value):Prop:=
 (env.kindOf x=some .local/\m x=some u)∨((env.kindOf x=some .cell∨env.kindOf x=some .free)/\∃ c,env.cells.lookup x=some c/\h.IsCell c (some u))
structure Cx.Ok (X:Cx):Prop where
 mod:Mod X.K X.mg X.base
 kind:X.env.scope.kind=.function
 glob:X.env.globals=mainGlobals
 blt:X.env.builtins=builtinsNs
 above:X.s₀.heap.objs.size<=X.env.locals
 inj:∀ x y c,X.env.cells.lookup x=some c->X.env.cells.lookup y=some c->x=y
 has:∀ x,(X.env.kindOf x=some .cell∨X.env.kindOf x=some .free)->∃ c,X.env.cells.lookup x=some c
 cab:∀ x c,X.fn x=true->X.env.cells.lookup x=some c->X.s₀.heap.objs.size<=c
 hd:X.calm=true->X.A.handled=none
 frames:X.A.frames=some X.stack
 stk:X.stack=X.outer∨(X.stack=X.env :: X.outer/\X.env.frame=some X.env.locals)
 exf:∀ b∈X.ex,b≠X.env.locals/\∀ x c,X.env.cells.lookup x=some c->c≠b
 bs:∀ b o,X.base.get? b=some o->X.s₀.heap.get? b=some o/\X.H₀ b=none
 bsz:X.base.objs.size<=X.s₀.heap.objs.size
 noex:∀ b o,X.base.get? b=some o->b∉X.ex
 exfs:∀ b∈X.ex,b∉X.fs
 funs:X.s₀.heap.FunFrames X.base X.outer
 frf:∀ b∈X.fs,X.H₀ b=none
structure Inv (X:Cx)(pins:List (Addr × Obj)) (σ:List (Option V)) (H:Hp)(s:Shared):Prop where
 ok:X.Ok
 os:s.os=X.s₀.os
 bare:AllBare s.gens
 base:Un X.fs X.ex X.H₀ H X.s₀.heap s.heap
 loc:∃ m,s.heap.Ns X.env.locals m/\∀ (i:Nat) (x:Str) (v:V),X.N[i]? = some x->σ[i]? = some (some v)->Vis X.env.scope x->∃ u,RelV v u/\Look X.env s.heap m x u
 cell:∀ x c,X.env.cells.lookup x=some c->∃ v,s.heap.IsCell c v
 free:H X.env.locals=none
 freeC:∀ x c,X.env.cells.lookup x=some c->H c=none
 pin:∀ p∈X.pn++pins,s.heap.get? p.1=some p.2/\H p.1=none/\p.1≠X.env.locals/\p.1∉X.fs/\∀ v,p.2.data≠.cell v
 hok:HOk X.prog X.w H s.heap
 len:σ.length=X.N.length
section
variable {X:Cx}{pins:List (Addr × Obj)}{σ:List (Option V)}{H H':Hp}{s:Shared}{h':Heap}
theorem Cx.Ok.nofr (ok:X.Ok){b:Addr}{o:Obj}(e:X.base.get? b=some o):b∉X.fs:=λ hb=>by
 have:=(ok.funs.mem hb).1
 rw[e]at this;cases this
theorem Inv.bs (I:Inv X pins σ H s):∀ b o,X.base.get? b=some o->s.heap.get? b=some o/\H b=none:=λ b o e=>
 ⟨I.base.keep b o (I.ok.bs b o e).1 (I.ok.bs b o e).2 (I.ok.nofr e) (I.ok.noex b o e),I.base.free b o (I.ok.bs b o e).1 (I.ok.bs b o e).2 (I.ok.noex b o e)⟩
theorem Inv.bk (I:Inv X pins σ H s):∀ b o,X.base.get? b=some o->s.heap.get? b=some o:=λ b o e=>(I.bs b o e).1
theorem Inv.mod (I:Inv X pins σ H s):Mod X.K X.mg X.base:=I.ok.mod
theorem Inv.kIn (I:Inv X pins σ H s):X.K.In s.heap:=I.ok.mod.kin.keeps I.bk
theorem Inv.lt (I:Inv X pins σ H s):X.env.locals < s.heap.objs.size:=let ⟨_,hn,_⟩:=I.loc;hn.lt
theorem Inv.sz (I:Inv X pins σ H s):X.s₀.heap.objs.size<=s.heap.objs.size:=Nat.le_trans I.ok.above (Nat.le_of_lt I.lt)
theorem Inv.nofs (I:Inv X pins σ H s){a:Addr}(h:s.heap.objs.size<=a):a∉X.fs:=λ hb=>by
 obtain⟨_,o,ho,_⟩:=I.ok.funs.mem hb
 exact absurd (Nat.lt_of_lt_of_le (Heap.lt_size ho) (Nat.le_trans I.sz h)) (Nat.lt_irrefl _)
theorem Inv.cne (I:Inv X pins σ H s):∀ x c,X.env.cells.lookup x=some c->c≠X.env.locals:=λ x c e z=>by
 obtain⟨v,o,ho,hd⟩:=I.cell x c e
 obtain⟨m,⟨o',es,ep,ho',hd',_⟩,_⟩:=I.loc
 rw[z,ho']at ho;cases ho;rw[hd']at hd;cases hd
theorem Inv.funs (I:Inv X pins σ H s):s.heap.FunFrames X.base X.outer:=by
 have all:∀ (l:List Env),(∀ b∈frs l,b∈X.fs)->X.s₀.heap.FunFrames X.base l->s.heap.FunFrames X.base l:=by
  intro l
  induction l with
  | nil=>intro _ _;trivial
  | cons env r ih=>
   intro hs hl
   obtain⟨hk,⟨L,o,hf,hn,ho,hd⟩,hr⟩:=hl
   have hL:L∈X.fs:=hs L (by unfold frs;rw[List.filterMap_cons,hf];exact List.mem_cons_self)
   obtain⟨sl,e⟩:=I.base.slot L o ho (I.ok.frf L hL) hL λ z=>I.ok.exfs L z hL
   exact⟨hk,⟨L,_,hf,hn,e,hd⟩,ih (λ b hb=>hs b (by unfold frs;rw[List.filterMap_cons,hf];exact List.mem_cons_of_mem _ hb)) hr⟩
 exact all X.outer (λ _ hb=>hb) I.ok.funs
theorem Inv.stack (I:Inv X pins σ H s):s.heap.FunFrames X.base X.stack:=by
 rcases I.ok.stk with e|⟨e,hf⟩
 ·rw[e];exact I.funs
 ·rw[e]
  obtain⟨m,hn,_⟩:=I.loc
  refine .cons (by rw[I.ok.kind];decide) hf hn ?_ I.funs
  exact Heap.get?_none_of_le (Nat.le_trans I.ok.bsz I.ok.above)
theorem Inv.stkSub (I:Inv X pins σ H s):∀ b∈frs X.stack,b∈X.env.locals :: X.fs:=λ b hb=>by
 rcases I.ok.stk with e|⟨e,hf⟩
 ·rw[e]at hb;exact List.mem_cons_of_mem _ hb
 ·rw[e]at hb
  unfold frs at hb
  rw[List.filterMap_cons,hf]at hb
  exact hb
theorem Inv.stkFree (I:Inv X pins σ H s):∀ b∈frs X.stack,H b=none:=λ b hb=>by
 rcases List.mem_cons.mp (I.stkSub b hb) with e|hb
 ·rw[e];exact I.free
 ·obtain⟨_,o,ho,_⟩:=I.ok.funs.mem hb
  exact I.base.free b o ho (I.ok.frf b hb) λ z=>I.ok.exfs b z hb
theorem Inv.step {g':Array GenState}{t':Nat}{d':Drawn}{ch:List Addr}(I:Inv X pins σ H s)
  (hch:∀ b∈ch,(b∈X.ex∨X.s₀.heap.objs.size<=b)/\b≠X.env.locals/\(∀ x c,X.env.cells.lookup x=some c->c≠b)/\∀ p∈X.pn++pins,p.1≠b)
  (keep:∀ b o,b≠X.env.locals->b∉X.fs->b∉ch->s.heap.get? b=some o->H b=none->h'.get? b=some o)
  (slot:∀ b o,b≠X.env.locals->b∈X.fs->b∉ch->s.heap.get? b=some o->H b=none->∃ sl,h'.get? b=some { o with slots:=sl }) (free:∀ b o,b∉ch->s.heap.get? b=some o->H b=none->H' b=none)
  (there:∀ b o,b∉ch->s.heap.get? b=some o->∃ o',h'.get? b=some o')
  (tups:∀ b xs,H b=some (.tup xs)->H' b=some (.tup xs)) (frzs:∀ b o u,H b=some (.frz o u)->H' b=some (.frz o u)) (tbls:∀ b ps,H b=some (.tbl ps)->∃ more,H' b=some (.tbl (ps++more)))
  (ns:∀ m,s.heap.Ns X.env.locals m->h'.Ns X.env.locals m) (hok:HOk X.prog X.w H' h') (hg:AllBare g') :
  Inv X pins σ H' { s with heap:=h',gens:=g',drawn:=d',toks:=t' }:=by
 have neL:∀ b o,X.s₀.heap.get? b=some o->b≠X.env.locals:=λ b o e=>Nat.ne_of_lt (Nat.lt_of_lt_of_le (Heap.lt_size e) I.ok.above)
 have neC:∀ b o,X.s₀.heap.get? b=some o->b∉X.ex->b∉ch:=λ b o e hx hb=>by
  rcases(hch b hb).1 with z|z
  ·exact hx z
  ·exact absurd (Nat.lt_of_lt_of_le (Heap.lt_size e) z) (Nat.lt_irrefl _)
 have cellK:∀ x c,X.env.cells.lookup x=some c->∀ v,s.heap.IsCell c v->h'.IsCell c v:=λ x c e v ⟨o,ho,hd⟩=>by
  have nch:c∉ch:=λ z=>(hch c z).2.2.1 x c e rfl
  by_cases hc:c∈X.fs
  ·obtain⟨sl,q⟩:=slot c o (I.cne x c e) hc nch ho (I.freeC x c e)
   exact⟨_,q,hd⟩
  ·exact⟨o,keep c o (I.cne x c e) hc nch ho (I.freeC x c e),hd⟩
 refine⟨I.ok,I.os,hg,⟨λ b o e n hb hx=>?_,λ b o e n hb hx=>?_,λ b o e n hx=>?_,λ b o e hx=>?_,λ b xs e=>tups b xs (I.base.tups b xs e),λ b o xs e=>frzs b o xs (I.base.frzs b o xs e),λ b ps e=>?_⟩,?_,λ x c e=>?_,?_,λ x c e=>?_,λ p hp=>?_,hok,I.len⟩
 ·exact keep b o (neL b o e) hb (neC b o e hx) (I.base.keep b o e n hb hx) (I.base.free b o e n hx)
 ·obtain⟨sl,e1⟩:=I.base.slot b o e n hb hx
  obtain⟨sl',e2⟩:=slot b _ (neL b o e) hb (neC b o e hx) e1 (I.base.free b o e n hx)
  exact⟨sl',e2⟩
 ·obtain⟨o',e1⟩:=I.base.there b o e hx
  exact free b o' (neC b o e hx) e1 (I.base.free b o e n hx)
 ·obtain⟨o',e1⟩:=I.base.there b o e hx
  exact there b o' (neC b o e hx) e1
 ·obtain⟨m1,e1⟩:=I.base.tbls b ps e
  obtain⟨m2,e2⟩:=tbls b _ e1
  exact⟨m1++m2,by rw[e2,Array.append_assoc]⟩
 ·obtain⟨m,hn,hl⟩:=I.loc
  refine⟨m,ns m hn,λ i x v e1 e2 e3=>?_⟩
  obtain⟨u,r,l⟩:=hl i x v e1 e2 e3
  refine⟨u,r,?_⟩
  rcases l with l|⟨k,c,e,z⟩
  ·exact .inl l
  ·exact .inr ⟨k,c,e,cellK x c e _ z⟩
 ·obtain⟨v,z⟩:=I.cell x c e
  exact⟨v,cellK x c e v z⟩
 ·obtain⟨m,⟨o,_,_,ho,_⟩,_⟩:=I.loc
  exact free _ o (λ z=>(hch _ z).2.1 rfl) ho I.free
 ·obtain⟨v,o,ho,hd⟩:=I.cell x c e
  exact free c o (λ z=>(hch c z).2.2.1 x c e rfl) ho (I.freeC x c e)
 ·obtain⟨e,n,ne,nf,d⟩:=I.pin p hp
  have nch:p.1∉ch:=λ z=>(hch p.1 z).2.2.2 p hp rfl
  exact⟨keep p.1 p.2 ne nf nch e n,free p.1 p.2 nch e n,ne,nf,d⟩
theorem Inv.un {t':Nat}(I:Inv X pins σ H s)(u:Un X.fs [] H H' s.heap h')(hok:HOk X.prog X.w H' h'):Inv X pins σ H' { s with heap:=h',toks:=t' }:=by
 obtain⟨m,⟨o,es,ep,ho,r⟩,_⟩:=id I.loc
 obtain⟨sl,hL⟩:=u.any ho I.free (by simp)
 exact I.step (g':=s.gens) (d':=s.drawn) (ch:=[]) (λ _ z=>nomatch z) (λ b o _ hb _ e n=>u.keep b o e n hb (by simp)) (λ b o _ hb _ e n=>u.slot b o e n hb (by simp)) (λ b o _ e n=>u.free b o e n (by simp)) (λ b o _ e=>u.there b o e (by simp)) u.tups u.frzs u.tbls (λ m' hm=>by
  obtain⟨o',es',ep',ho',r'⟩:=hm
  rw[ho]at ho';cases ho'
  exact⟨_,es',ep',hL,r'⟩) hok I.bare
theorem Inv.call {g':Array GenState}{t':Nat}{d':Drawn}{ch:List Addr}(I:Inv X pins σ H s)(u:Un (frs X.stack) ch H H' s.heap h') (hok:HOk X.prog X.w H' h')(hg:AllBare g')
  (hch:∀ b∈ch,(b∈X.ex∨X.s₀.heap.objs.size<=b)/\b≠X.env.locals/\(∀ x c,X.env.cells.lookup x=some c->c≠b)/\∀ p∈X.pn++pins,p.1≠b) :
  Inv X pins σ H' { s with heap:=h',gens:=g',drawn:=d',toks:=t' }:=by
 obtain⟨m,⟨o,es,ep,ho,r⟩,_⟩:=id I.loc
 obtain⟨sl,hL⟩:=u.any ho I.free λ z=>(hch _ z).2.1 rfl
 exact I.step (ch:=ch) hch (λ b o hL hb hc e n=>u.keep b o e n (λ z=>(List.mem_cons.mp (I.stkSub b z)).elim hL hb) hc) (λ b o _ _ hc e n=>u.any e n hc) (λ b o hc e n=>u.free b o e n hc) (λ b o hc e=>u.there b o e hc) u.tups u.frzs u.tbls (λ m' hm=>by
  obtain⟨o',es',ep',ho',r'⟩:=hm
  rw[ho]at ho';cases ho'
  exact⟨_,es',ep',hL,r'⟩) hok hg
theorem Inv.turned {t':Nat}{it:Addr}(I:Inv X pins σ H s)(k:∀ b o,b≠it->s.heap.get? b=some o->h'.get? b=some o)(hn:H it=none)(hL:it≠X.env.locals)
  (h1:it∈X.ex∨X.s₀.heap.objs.size<=it) (h2:∀ x c,X.env.cells.lookup x=some c->c≠it) (h3:∀ p∈X.pn++pins,p.1≠it):Inv X pins σ H { s with heap:=h',toks:=t' }:=by
 have nit:∀ b u,H b=some u->b≠it:=λ b u e z=>by rw[z,hn]at e;cases e
 refine I.step (g':=s.gens) (d':=s.drawn) (ch:=[it]) (λ b hb=>?_) (λ b o _ _ hc e _=>k b o (λ z=>hc (by simp[z])) e) (λ b o _ _ hc e _=>⟨o.slots,k b o (λ z=>hc (by simp[z])) e⟩) (λ _ _ _ _ n=>n)
  (λ b o hc e=>⟨o,k b o (λ z=>hc (by simp[z])) e⟩) (λ _ _ e=>e) (λ _ _ _ e=>e) (λ b ps e=>⟨#[],by rw[e];simp⟩) (λ m hm=>?_) (λ b u e=>?_) I.bare
 ·have e:b=it:=by simpa using hb
  subst e
  exact⟨h1,hL,h2,h3⟩
 ·obtain⟨o,es,ep,ho,r⟩:=hm
  exact⟨o,es,ep,k _ o (Ne.symm hL) ho,r⟩
 ·refine(I.hok b u e).stay (λ c v hc q=>k c v ?_ q) (λ _ q=>q) λ _ _ q=>q
  rcases hc with z|z
  ·rw[z];exact nit b u e
  ·exact nit c _ z
theorem Inv.tok (I:Inv X pins σ H s)(t:Nat):Inv X pins σ H { s with toks:=t }:=I.un (h':=s.heap) (t':=t) Un.refl I.hok
theorem Inv.kept {t':Nat}(I:Inv X pins σ H s)(k:∀ b u,s.heap.get? b=some u->h'.get? b=some u):Inv X pins σ H { s with heap:=h',toks:=t' }:=I.un (Un.kept k) (I.hok.kept k)
theorem Inv.laid {a:Addr}{o:HO}{t':Nat}(I:Inv X pins σ H s)(k:∀ b u,s.heap.get? b=some u->h'.get? b=some u)(hp:s.heap.objs.size<=a)(new:ObjOk X.prog X.w (upd H a o) h' a o) :
  Inv X pins σ (upd H a o) { s with heap:=h',toks:=t' }:=I.un (Un.laid k hp (I.hok.fresh hp)) (I.hok.laid k hp new)
theorem Inv.write {x e:Addr}{o:HO}{t':Nat}(I:Inv X pins σ H s)(mu:Mut (H x)) (he:e=x∨H e=some (.own x)) (k:∀ b u,b≠e->s.heap.get? b=some u->h'.get? b=some u)(heo:∃ u,h'.get? e=some u)
  (new:ObjOk X.prog X.w (upd H x o) h' x o):Inv X pins σ (upd H x o) { s with heap:=h',toks:=t' }:=I.un (Un.write mu he k heo) (I.hok.write mu he k heo new)
theorem Inv.pins_of {pins':List (Addr × Obj)}(I:Inv X pins σ H s)(h:∀ p∈pins',s.heap.get? p.1=some p.2/\H p.1=none/\p.1≠X.env.locals/\p.1∉X.fs/\∀ v,p.2.data≠.cell v):Inv X pins' σ H s:=
 ⟨I.ok,I.os,I.bare,I.base,I.loc,I.cell,I.free,I.freeC,λ p hp=>(List.mem_append.mp hp).elim (λ z=>I.pin p (List.mem_append_left _ z)) (h p),I.hok,I.len⟩
theorem nodup_ix {N:List Str}(hN:N.Nodup){i j:Nat}{x:Str}(a:N[i]? = some x)(b:N[j]? = some x):i=j:=by
 obtain⟨h1,e1⟩:=List.getElem?_eq_some_iff.mp a
 obtain⟨h2,e2⟩:=List.getElem?_eq_some_iff.mp b
 exact(List.getElem_inj hN).mp (e1.trans e2.symm)
theorem store_ok2 {M:Model}{A:Around}{E:Value->Shared->Prop}{i:Nat}{x:Str}{v:V}{u:Value}{Q:Unit->Shared->Prop}(I:Inv X pins σ H s)(hN:X.N.Nodup)(hi:X.N[i]? = some x)(hx:Loc X.env.scope x)(r:RelV v u)
  (h:∀ s',Inv X pins (σ.set i (some v)) H s'->(∃ a,Heap.SameBut a s.heap s'.heap/\(a=X.env.locals∨X.env.cells.lookup x=some a))->Q () s') (hf:X.fn x=true∨X.env.scope.names.lookup x=some .local:=by first|exact .inl rfl|exact .inr rfl|assumption):wpAny M A (storeName X.env x u) Q E s:=by
 obtain⟨m,hn,hl⟩:=id I.loc
 have hcls:(X.env.scope.kind == .class || (X.env.scope.kind == .module && X.env.locals != X.env.globals))=false:=by rw[I.ok.kind];rfl
 have hiσ:i < σ.length:=by rw[I.len];exact(List.getElem?_eq_some_iff.mp hi).1
 have cne:=I.cne
 have tracked:∀ {a:Addr}{h':Heap},(∃ o,s.heap.get? a=some o/\H a=none)->Heap.SameBut a s.heap h'->HOk X.prog X.w H h':=λ {a h'} ha hs b ob e=>by
  obtain⟨_,_,hfree⟩:=ha
  refine(I.hok b ob e).stay (λ c w' hc q=>(hs.2 c ?_).trans q) (λ _ q=>q) λ _ _ q=>q
  rintro rfl
  rcases hc with rfl|hc
  ·rw[hfree]at e;cases e
  ·rw[hfree]at hc;cases hc
 rcases hx with hk|hk
 ·refine wpAny_storeName_local hk hn (λ h' hn' hs=>?_) hcls
  obtain⟨oL,_,_,hoL,_⟩:=id hn
  refine h _ ⟨I.ok,I.os,I.bare,⟨λ b o e n hb hx=>?_,λ b o e n hb hx=>?_,I.base.free,λ b o e hx=>?_,I.base.tups,I.base.frzs,I.base.tbls⟩,⟨_,hn',λ j y v' e1 e2 e3=>?_⟩,λ y c e=>?_,I.free,I.freeC,λ p hp=>?_,tracked ⟨oL,hoL,I.free⟩ hs,by simpa using I.len⟩ ⟨_,hs,.inl rfl⟩
  ·exact(hs.2 b (Nat.ne_of_lt (Nat.lt_of_lt_of_le (Heap.lt_size e) I.ok.above))).trans (I.base.keep b o e n hb hx)
  ·obtain⟨sl,e1⟩:=I.base.slot b o e n hb hx
   exact⟨sl,(hs.2 b (Nat.ne_of_lt (Nat.lt_of_lt_of_le (Heap.lt_size e) I.ok.above))).trans e1⟩
  ·obtain⟨o',e1⟩:=I.base.there b o e hx
   exact⟨o',(hs.2 b (Nat.ne_of_lt (Nat.lt_of_lt_of_le (Heap.lt_size e) I.ok.above))).trans e1⟩
  ·by_cases hj:j=i
   ·subst hj
    rw[hi]at e1;cases e1
    rw[List.getElem?_set_self hiσ]at e2
    cases e2
    exact⟨u,r,.inl ⟨hk,by simp⟩⟩
   ·rw[List.getElem?_set_ne (Ne.symm hj)]at e2
    obtain⟨u',r',q⟩:=hl j y v' e1 e2 e3
    refine⟨u',r',?_⟩
    rcases q with⟨k,e⟩|⟨k,c,e,z⟩
    ·refine .inl ⟨k,?_⟩
     have:y≠x:=λ e=>hj (nodup_ix hN e1 (e ▸ hi))
     simp[this,e]
    ·exact .inr ⟨k,c,e,z.sameBut hs (cne y c e)⟩
  ·obtain⟨w',z⟩:=I.cell y c e
   exact⟨w',z.sameBut hs (cne y c e)⟩
  ·obtain⟨e,n,ne,nf,d⟩:=I.pin p hp
   exact⟨(hs.2 p.1 ne).trans e,n,ne,nf,d⟩
 ·have hfn:X.fn x=true:=by
   rcases hf with z|z
   ·exact z
   ·rw[z]at hk;cases hk
  obtain⟨c,hc⟩:=I.ok.has x (.inl hk)
  obtain⟨w',z⟩:=I.cell x c hc
  refine wpAny_storeName_cell I.ok.kind hk hc z (λ h' hc' hs=>?_)
  obtain⟨oc,hoc,hocd⟩:=id z
  refine h { s with heap:=h' } ⟨I.ok,I.os,I.bare,⟨λ b o e n hb hx=>?_,λ b o e n hb hx=>?_,I.base.free,λ b o e hx=>?_,I.base.tups,I.base.frzs,I.base.tbls⟩,⟨m,hn.sameBut hs (Ne.symm (cne x c hc)),λ j y v' e1 e2 e3=>?_⟩,λ y c' e=>?_,I.free,I.freeC,λ p hp=>?_,tracked ⟨oc,hoc,I.freeC x c hc⟩ hs,by simpa using I.len⟩ ⟨c,hs,.inr hc⟩
  ·exact(hs.2 b (Nat.ne_of_lt (Nat.lt_of_lt_of_le (Heap.lt_size e) (I.ok.cab x c hfn hc)))).trans (I.base.keep b o e n hb hx)
  ·obtain⟨sl,e1⟩:=I.base.slot b o e n hb hx
   exact⟨sl,(hs.2 b (Nat.ne_of_lt (Nat.lt_of_lt_of_le (Heap.lt_size e) (I.ok.cab x c hfn hc)))).trans e1⟩
  ·obtain⟨o',e1⟩:=I.base.there b o e hx
   exact⟨o',(hs.2 b (Nat.ne_of_lt (Nat.lt_of_lt_of_le (Heap.lt_size e) (I.ok.cab x c hfn hc)))).trans e1⟩
  ·by_cases hj:j=i
   ·subst hj
    rw[hi]at e1;cases e1
    rw[List.getElem?_set_self hiσ]at e2
    cases e2
    exact⟨u,r,.inr ⟨.inl hk,c,hc,hc'⟩⟩
   ·rw[List.getElem?_set_ne (Ne.symm hj)]at e2
    obtain⟨u',r',q⟩:=hl j y v' e1 e2 e3
    refine⟨u',r',?_⟩
    rcases q with q|⟨k,c',e,z'⟩
    ·exact .inl q
    ·refine .inr ⟨k,c',e,z'.sameBut hs ?_⟩
     rintro rfl
     exact hj (nodup_ix hN e1 (I.ok.inj _ _ _ e hc ▸ hi))
  ·by_cases hcc:c'=c
   ·subst hcc;exact⟨_,hc'⟩
   ·obtain⟨w2,z2⟩:=I.cell y c' e
    exact⟨w2,z2.sameBut hs hcc⟩
  ·obtain⟨e,n,ne,nf,d⟩:=I.pin p hp
   refine⟨(hs.2 p.1 ?_).trans e,n,ne,nf,d⟩
   intro q
   rw[q,hoc]at e
   have q':oc=p.2:=Option.some.inj e
   exact d w' (by rw[<-q'];exact hocd)
theorem store_ok {M:Model}{A:Around}{E:Value->Shared->Prop}{i:Nat}{x:Str}{v:V}{u:Value}{Q:Unit->Shared->Prop}(I:Inv X pins σ H s)(hN:X.N.Nodup)(hi:X.N[i]? = some x)(hx:Loc X.env.scope x)(r:RelV v u)
  (h:∀ s',Inv X pins (σ.set i (some v)) H s'->Q () s') (hf:X.fn x=true∨X.env.scope.names.lookup x=some .local:=by first|exact .inl rfl|exact .inr rfl|assumption):wpAny M A (storeName X.env x u) Q E s:=
 store_ok2 I hN hi hx r (λ s' I' _=>h s' I') hf
theorem Inv.call' {s':Shared}{ch:List Addr}(I:Inv X pins σ H s)(ho:s'.os=s.os)(u:Un (frs X.stack) ch H H' s.heap s'.heap) (hok:HOk X.prog X.w H' s'.heap)(hg:AllBare s'.gens)
  (hch:∀ b∈ch,(b∈X.ex∨X.s₀.heap.objs.size<=b)/\b≠X.env.locals/\(∀ x c,X.env.cells.lookup x=some c->c≠b)/\∀ p∈X.pn++pins,p.1≠b):Inv X pins σ H' s':=by
 obtain⟨h',g',d',t',o'⟩:=s'
 have e:o'=s.os:=ho
 subst e
 exact I.call (g':=g') (t':=t') (d':=d') u hok hg hch
end
abbrev XK:=Value->Option Addr->Hp->Prop
abbrev St:=List (Option V)
abbrev VK:=V->Hp->Prop
abbrev TE:=St->Hp->VK->Prop
abbrev TT:=St->Hp->(Bool->Hp->Prop)->Prop
abbrev TA:=St->Hp->(List V->Hp->Prop)->Prop
structure Ends where
 nx:St->Hp->Prop
 rt:VK
 bk:St->Hp->Prop:=λ _ _=>False
 ct:St->Hp->Prop:=λ _ _=>False
abbrev TS:=Ends->St->Hp->Prop
def EP (X:Cx)(pins:List (Addr × Obj)) (σ:St)(Q:VK)(u:Value)(s':Shared):Prop:=∃ v H',Inv X pins σ H' s'/\RelV v u/\Q v H'
def TP (X:Cx)(pins:List (Addr × Obj)) (σ:St)(Q:Bool->Hp->Prop)(b:Bool)(s':Shared):Prop:=∃ H',Inv X pins σ H' s'/\Q b H'
def AP (X:Cx)(pins:List (Addr × Obj)) (σ:St)(Q:List V->Hp->Prop)(us:List Value)(s':Shared):Prop:=∃ vs H',Inv X pins σ H' s'/\Vals vs us/\Q vs H'
def SP (X:Cx)(pins:List (Addr × Obj)) (D:Ends)(f:Flow)(s':Shared):Prop:=
 match f with
 | .next=>∃ σ' H',Inv X pins σ' H' s'/\D.nx σ' H'
 | .brk=>∃ σ' H',Inv X pins σ' H' s'/\D.bk σ' H'
 | .cont=>∃ σ' H',Inv X pins σ' H' s'/\D.ct σ' H'
 | .ret u=>∃ v σ' H',Inv X pins σ' H' s'/\RelV v u/\D.rt v H'
def PE (X:Cx)(e:Expr)(t:TE):Prop:=
 ∀ (pins:List (Addr × Obj)) (s:Shared) (σ:St) (H:Hp) (Q:VK),Inv X pins σ H s->t σ H Q->wpAny (model X.prog X.w) X.A (eval e X.env) (EP X pins σ Q) X.xe s
def PT (X:Cx)(e:Expr)(t:TT):Prop:=
 ∀ (pins:List (Addr × Obj)) (s:Shared) (σ:St) (H:Hp) (Q:Bool->Hp->Prop),Inv X pins σ H s->t σ H Q->wpAny (model X.prog X.w) X.A (isTrue e X.env (eval e X.env)) (TP X pins σ Q) X.xe s
def PW (X:Cx)(e:Expr)(t:TT):Prop:=
 ∀ (whole:Sem Value) (pins:List (Addr × Obj)) (s:Shared) (σ:St) (H:Hp) (Q:Bool->Hp->Prop),Inv X pins σ H s->t σ H Q->wpAny (model X.prog X.w) X.A (isTrue e X.env whole) (TP X pins σ Q) X.xe s
theorem PW.pt {X:Cx}{e:Expr}{t:TT}(h:PW X e t):PT X e t:=h _
def PA (X:Cx)(es:List Expr)(t:TA):Prop:=
 ∀ (pos:Pos) (pins:List (Addr × Obj)) (s:Shared) (σ:St) (H:Hp) (Q:List V->Hp->Prop),Inv X pins σ H s->t σ H Q->wpAny (model X.prog X.w) X.A (spliced (backTo pos (starEach es X.env))) (AP X pins σ Q) X.xe s
def PS (X:Cx)(st:Stmt)(t:TS):Prop:=
 ∀ (pins:List (Addr × Obj)) (s:Shared) (σ:St) (H:Hp) (D:Ends),Inv X pins σ H s->t D σ H->wpAny (model X.prog X.w) X.A (exec st X.env) (SP X pins D) X.xe s
def PSs (X:Cx)(st:List Stmt)(t:TS):Prop:=
 ∀ (pins:List (Addr × Obj)) (s:Shared) (σ:St) (H:Hp) (D:Ends),Inv X pins σ H s->t D σ H->wpAny (model X.prog X.w) X.A (execs st X.env) (SP X pins D) X.xe s
theorem thn {α:Type}{t:Sem α}{Q Q':α->Shared->Prop}{M:Model}{A:Around}{E:Value->Shared->Prop}{s:Shared}(h:wpAny M A t Q E s)(hQ:∀ a s,Q a s->Q' a s):wpAny M A t Q' E s:=wpAny_mono h hQ λ _ _ x=>x
end L2
namespace L2
open PySem PySem.Spec PyProof.Rows
section
variable {X:Cx}
theorem bin {a b:Expr}{ta tb:TE}(ha:PE X a ta)(hb:PE X b tb){pins:List (Addr × Obj)}{s:Shared}{σ:St}{H:Hp}{R:V->V->Hp->Prop}(I:Inv X pins σ H s)(h:ta σ H λ x H1=>tb σ H1 λ y H2=>R x y H2)
  {α:Type}{Q:α->Shared->Prop}{f:Value->Value->Sem α}
  (hf:∀ v u s2 x y H2,Inv X pins σ H2 s2->RelV x v->RelV y u->R x y H2->wpAny (model X.prog X.w) X.A (f v u) Q X.xe s2) :
  wpAny (model X.prog X.w) X.A (eval a X.env) (λ v s₁=>wpAny (model X.prog X.w) X.A (eval b X.env) (λ u s₂=>wpAny (model X.prog X.w) X.A (f v u) Q X.xe s₂) X.xe s₁) X.xe s:=by
 refine thn (ha pins s σ H _ I h) λ v s1 ⟨x,H1,I1,r1,q1⟩=>?_
 refine thn (hb pins s1 σ H1 _ I1 q1) λ u s2 ⟨y,H2,I2,r2,q2⟩=>?_
 exact hf v u s2 x y H2 I2 r1 r2 q2
def tVar (i:Nat):TE:=λ σ H Q=>∃ v,σ[i]? = some (some v)/\Q v H
def tC (v:V):TE:=λ _ H Q=>Q v H
theorem pe_var {i:Nat}{x:Str}{pos:Pos}(hN:X.N[i]? = some x)(hv:Vis X.env.scope x)(hd:(x == ("__debug__":Str))=false:=by decide) (hcd:(x == ("__classdict__":Str))=false:=by decide):PE X (.Name x pos) (tVar i):=by
 intro pins s σ H Q I h
 obtain⟨v,e,h⟩:=h
 obtain⟨m,hn,hl⟩:=I.loc
 obtain⟨u,r,l⟩:=hl i x v hN e hv
 have fin:EP X pins σ Q u s:=⟨v,H,I,r,h⟩
 rcases l with⟨hk,hm⟩|⟨hk,c,hc,hcell⟩
 ·exact wpAny_Name (wpAny_loadName_local I.ok.kind hk hn hm fin) hd
 ·rcases hk with hk|hk
  ·exact wpAny_Name (wpAny_loadName_cell I.ok.kind hk hc hcell fin) hd
  ·exact wpAny_Name (wpAny_loadName_free I.ok.kind hk hc hcell fin hcd) hd
theorem pe_int {i j pos}:PE X (.Constant (.int i) j pos) (tC (.int i)):=λ _ _ _ H _ I h=>wpAny_Constant_int ⟨.int i,H,I.tok _,⟨_,rfl⟩,h⟩
theorem pe_bl {b j pos}:PE X (.Constant (.bool b) j pos) (tC (.bl b)):=λ _ _ _ H _ I h=>Constant_bool ⟨.bl b,H,I,rfl,h⟩
theorem pe_non {j pos}:PE X (.Constant .none j pos) (tC .non):=λ _ _ _ H _ I h=>Constant_none ⟨.non,H,I,rfl,h⟩
theorem pe_str {x j pos}:PE X (.Constant (.str x) j pos) (tC (.str x)):=λ _ _ _ H _ I h=>Calls.Constant_str ⟨.str x,H,I.tok _,⟨_,rfl⟩,h⟩
def Gl (X:Cx)(x:Str):Prop:=X.env.kindOf x=some .globalImplicit
theorem ld_glob {E:Value->Shared->Prop}{pins:List (Addr × Obj)}{s:Shared}{σ:St}{H:Hp}{x:Str}{u:Value}{pos:Pos}{Q:Value->Shared->Prop}(I:Inv X pins σ H s)(hg:Gl X x)(hm:X.mg x=some u)(h:Q u s)
  (hd:(x == ("__debug__":Str))=false:=by decide):wpAny (model X.prog X.w) X.A (eval (.Name x pos) X.env) Q E s:=
 Calls.Name_function_global I.ok.kind hg (Calls.loadGlobal_global (by rw[I.ok.glob];exact I.mod.glob.keeps I.bk) hm h) hd
theorem ld_blt {E:Value->Shared->Prop}{pins:List (Addr × Obj)}{s:Shared}{σ:St}{H:Hp}{x:Str}{u:Value}{pos:Pos}{Q:Value->Shared->Prop}(I:Inv X pins σ H s)(hg:Gl X x)(hm:X.mg x=none)(hv:bootBuiltins x=some u)(h:Q u s)
  (hn:x≠"__name__":=by decide) (hd:(x == ("__debug__":Str))=false:=by decide):wpAny (model X.prog X.w) X.A (eval (.Name x pos) X.env) Q E s:=by
 obtain⟨mb,h1,h2⟩:=I.mod.blt
 exact Calls.Name_function_global I.ok.kind hg (Calls.loadGlobal_builtin (by rw[I.ok.glob];exact I.mod.glob.keeps I.bk) hm (by rw[I.ok.blt];exact h1.keeps I.bk) ((h2 x hn).trans hv) h) hd
theorem pe_glob {x:Str}{v:V}{u:Value}{pos:Pos}(hg:Gl X x)(hm:X.mg x=some u)(r:RelV v u)(hd:(x == ("__debug__":Str))=false:=by decide):PE X (.Name x pos) (tC v):=
 λ _ _ _ H _ I h=>ld_glob I hg hm ⟨v,H,I,r,h⟩ hd
theorem pe_bltn {x:Str}{v:V}{u:Value}{pos:Pos}(hg:Gl X x)(hm:X.mg x=none)(hv:bootBuiltins x=some u)(r:RelV v u)(hn:x≠"__name__":=by decide)(hd:(x == ("__debug__":Str))=false:=by decide):PE X (.Name x pos) (tC v):=
 λ _ _ _ H _ I h=>ld_blt I hg hm hv ⟨v,H,I,r,h⟩ hn hd
variable {a b:Expr}{ta tb:TE}{pos:Pos}
variable {tA tB':TT}{rest:List Expr}
def tOr (t u:TT):TT:=λ σ H Q=>t σ H λ c H1=>if c=true then Q true H1 else u σ H1 Q
def tNot (t:TT):TT:=λ σ H Q=>t σ H λ c H1=>Q (!c) H1
theorem pw_or1 (ha:PT X a tA):PW X (.BoolOp .Or [a] pos) tA:=by
 intro wh pins s σ H Q I h
 refine isTrue_or (thn (ha pins s σ H Q I h) λ c s1 e=>?_)
 cases c with
 | false=>exact isTrue_or_nil e
 | true=>exact e
theorem pw_or (ha:PT X a tA)(hb:PW X (.BoolOp .Or (b :: rest) pos) tB'):PW X (.BoolOp .Or (a :: b :: rest) pos) (tOr tA tB'):=by
 intro wh pins s σ H Q I h
 refine isTrue_or (thn (ha pins s σ H _ I h) λ c s1 ⟨H1,I1,q1⟩=>?_)
 cases c with
 | true=>exact⟨H1,I1,q1⟩
 | false=>exact hb wh pins s1 σ H1 Q I1 q1
theorem pt_not (ha:PT X a tA):PT X (.UnaryOp .Not a pos) (tNot tA):=by
 intro pins s σ H Q I h
 exact isTrue_not (ha pins s σ H (λ c H1=>Q (!c) H1) I h)
def tAndV (ta tb:TE):TE:=λ σ H Q=>ta σ H λ x H1=>∃ c,x=.bl c/\if c=true then tb σ H1 Q else Q (.bl false) H1
def tOrV (ta tb:TE):TE:=λ σ H Q=>ta σ H λ x H1=>∃ c,x=.bl c/\if c=true then Q (.bl true) H1 else tb σ H1 Q
def tNotV (ta:TE):TE:=λ σ H Q=>ta σ H λ x H1=>∃ c,x=.bl c/\Q (.bl (!c)) H1
theorem pe_one {op} {t:TE}(h:PE X a t):PE X (.BoolOp op [a] pos) t:=λ pins s σ H Q I hw=>BoolOp_one (h pins s σ H Q I hw)
theorem pe_and (ha:PE X a ta)(hb:PE X (.BoolOp .And (b :: rest) pos) tb):PE X (.BoolOp .And (a :: b :: rest) pos) (tAndV ta tb):=by
 intro pins s σ H Q I h
 refine BoolOp_and (thn (ha pins s σ H _ I h) λ v s1 ⟨x,H1,I1,r1,q1⟩=>?_)
 obtain⟨c,rfl,q1⟩:=q1
 cases r1
 refine wpAny_truthy_bool ?_
 cases c with
 | true=>exact hb pins s1 σ H1 Q I1 q1
 | false=>exact⟨.bl false,H1,I1,rfl,q1⟩
theorem pe_or (ha:PE X a ta)(hb:PE X (.BoolOp .Or (b :: rest) pos) tb):PE X (.BoolOp .Or (a :: b :: rest) pos) (tOrV ta tb):=by
 intro pins s σ H Q I h
 refine BoolOp_or (thn (ha pins s σ H _ I h) λ v s1 ⟨x,H1,I1,r1,q1⟩=>?_)
 obtain⟨c,rfl,q1⟩:=q1
 cases r1
 refine wpAny_truthy_bool ?_
 cases c with
 | false=>exact hb pins s1 σ H1 Q I1 q1
 | true=>exact⟨.bl true,H1,I1,rfl,q1⟩
theorem pe_not (ha:PE X a ta):PE X (.UnaryOp .Not a pos) (tNotV ta):=by
 intro pins s σ H Q I h
 refine UnaryOp_ (thn (ha pins s σ H _ I h) λ v s1 ⟨x,H1,I1,r1,q1⟩=>?_)
 obtain⟨c,rfl,q1⟩:=q1
 cases r1
 exact not_of (wpAny_truthy_bool ⟨.bl (!c),H1,I1,rfl,q1⟩)
def tIf (t:TT)(ta tb:TE):TE:=λ σ H Q=>t σ H λ c H1=>if c=true then ta σ H1 Q else tb σ H1 Q
theorem pe_ifExp {c:Expr}(hc:PT X c tA)(ha:PE X a ta)(hb:PE X b tb):PE X (.IfExp c a b pos) (tIf tA ta tb):=by
 intro pins s σ H Q I h
 refine wpAny_IfExp (thn (hc pins s σ H _ I h) λ d s1 ⟨H1,I1,q1⟩=>?_)
 cases d with
 | true=>exact ha pins s1 σ H1 Q I1 q1
 | false=>exact hb pins s1 σ H1 Q I1 q1
end
end L2
namespace L2
open PySem PySem.Spec PyProof.Rows
def SqL (K:PySem.W.Frag)(H:Hp)(a:Addr)(xs:List V):Prop:=
 Rd H a (.lst xs)∨
  ∃ (o:Obj) (its:Array Value) (n:Nat),K.lookup a=some o/\o.cls=.type "list"/\o.dict=none/\o.data=.seq its n/\its.size<=sizeLine/\Vals xs its.toList
def SqT (K:PySem.W.Frag)(H:Hp)(a:Addr)(xs:List V):Prop:=
 Rd H a (.tup xs)∨
  ∃ (o:Obj) (its:Array Value) (n:Nat),K.lookup a=some o/\o.cls=.type "tuple"/\o.data=.seq its n/\its.size<=sizeLine/\Vals xs its.toList
def absV:Value->Option V
 | .none=>some .non
 | .bool b=>some (.bl b)
 | .int i _=>some (.int i)
 | .str x _=>some (.str x)
 | .bytes b _=>some (.byt b)
 | .float b _=>some (.flt b)
 | .ref a=>some (.ref a)
 | .type n=>some (.ty n)
 | _=>none
theorem RelV.abs {x:V}{u:Value}(r:RelV x u):absV u=some x:=by
 cases x with
 | non=>cases r;rfl
 | bl _=>cases r;rfl
 | int _=>obtain⟨t,rfl⟩:=r;rfl
 | str _=>obtain⟨t,rfl⟩:=r;rfl
 | byt _=>obtain⟨t,rfl⟩:=r;rfl
 | flt _=>obtain⟨t,rfl⟩:=r;rfl
 | ref _=>cases r;rfl
 | ty _=>cases r;rfl
theorem RelV.inj {x y:V}{u:Value}(r:RelV x u)(q:RelV y u):x=y:=Option.some.inj (r.abs.symm.trans q.abs)
theorem Vals.inj:∀ {xs ys:List V}{us:List Value},Vals xs us->Vals ys us->xs=ys
 | _,_,_,.nil,.nil=>rfl
 | _,_,_,.cons r t,.cons r' t'=>by rw[r.inj r',Vals.inj t t']
section
variable {X:Cx}{pins:List (Addr × Obj)}{σ:St}{H:Hp}{s:Shared}{a:Addr}{xs ys:List V}
theorem SqL.of {K:PySem.W.Frag}(h:H a=some (.lst xs)):SqL K H a xs:=.inl (.inl h)
theorem SqT.of {K:PySem.W.Frag}(h:H a=some (.tup xs)):SqT K H a xs:=.inl (.inl h)
theorem Inv.list (I:Inv X pins σ H s)(h:SqL X.K H a xs):∃ its:List Value,Vals xs its/\PlainL s.heap a its.toArray/\xs.length<=sizeLine:=by
 rcases h with h|⟨o,its,n,hk,hc,hd,hs,hz,r⟩
 ·obtain⟨z,its,n,r,e⟩:=h.ok I.hok
  exact⟨its,r,⟨_,n,e,rfl,rfl,rfl⟩,z⟩
 ·refine⟨its.toList,r,⟨o,n,I.kIn a o hk,hc,hd,by simpa using hs⟩,?_⟩
  have e:=r.length
  simp only[Array.length_toList]at e
  omega
theorem Inv.tuple (I:Inv X pins σ H s)(h:SqT X.K H a xs):∃ its:List Value,Vals xs its/\IsTup s.heap a its.toArray/\xs.length<=sizeLine:=by
 rcases h with h|⟨o,its,n,hk,hc,hs,hz,r⟩
 ·obtain⟨z,its,r,p⟩:=h.ok I.hok
  exact⟨its,r,p,z⟩
 ·refine⟨its.toList,r,⟨o,I.kIn a o hk,hc,n,by simpa using hs⟩,?_⟩
  have e:=r.length
  simp only[Array.length_toList]at e
  omega
theorem Inv.list_inj (I:Inv X pins σ H s)(h:SqL X.K H a xs)(h':SqL X.K H a ys):xs=ys:=by
 obtain⟨its,r,⟨o,n,e,_,_,d⟩,_⟩:=I.list h
 obtain⟨its',r',⟨o',n',e',_,_,d'⟩,_⟩:=I.list h'
 rw[e]at e';cases e'
 rw[d]at d'
 injection d' with d1 _
 have:its=its':=by simpa using congrArg Array.toList d1
 subst this
 exact r.inj r'
theorem Inv.tuple_inj (I:Inv X pins σ H s)(h:SqT X.K H a xs)(h':SqT X.K H a ys):xs=ys:=by
 obtain⟨its,r,⟨o,e,_,n,d⟩,_⟩:=I.tuple h
 obtain⟨its',r',⟨o',e',_,n',d'⟩,_⟩:=I.tuple h'
 rw[e]at e';cases e'
 rw[d]at d'
 injection d' with d1 _
 have:its=its':=by simpa using congrArg Array.toList d1
 subst this
 exact r.inj r'
end
abbrev Cx.wish (X:Cx)(E:Value->Shared->Prop):Cx:={ X with xe:=E }
abbrev Cx.nox (X:Cx):Cx:=X.wish λ _ _=>False
theorem Cx.Ok.wish {X:Cx}(ok:X.Ok)(E:Value->Shared->Prop):(X.wish E).Ok:=
 ⟨ok.mod,ok.kind,ok.glob,ok.blt,ok.above,ok.inj,ok.has,ok.cab,ok.hd,ok.frames,ok.stk,ok.exf,ok.bs,ok.bsz,ok.noex,ok.exfs,ok.funs,ok.frf⟩
theorem Cx.Ok.unwish {X:Cx}{E:Value->Shared->Prop}(ok:(X.wish E).Ok):X.Ok:=
 ⟨ok.mod,ok.kind,ok.glob,ok.blt,ok.above,ok.inj,ok.has,ok.cab,ok.hd,ok.frames,ok.stk,ok.exf,ok.bs,ok.bsz,ok.noex,ok.exfs,ok.funs,ok.frf⟩
section
variable {X:Cx}{pins:List (Addr × Obj)}{σ:St}{H:Hp}{s:Shared}{E:Value->Shared->Prop}
theorem Inv.wish (I:Inv X pins σ H s)(E:Value->Shared->Prop):Inv (X.wish E) pins σ H s:=⟨I.ok.wish E,I.os,I.bare,I.base,I.loc,I.cell,I.free,I.freeC,I.pin,I.hok,I.len⟩
theorem Inv.unwish (I:Inv (X.wish E) pins σ H s):Inv X pins σ H s:=⟨I.ok.unwish,I.os,I.bare,I.base,I.loc,I.cell,I.free,I.freeC,I.pin,I.hok,I.len⟩
theorem SP.unwish {D:Ends}{f:Flow}{s':Shared}(h:SP (X.wish E) pins D f s'):SP X pins D f s':=by
 cases f with
 | next=>obtain⟨σ',H',I,q⟩:=h;exact⟨σ',H',I.unwish,q⟩
 | brk=>obtain⟨σ',H',I,q⟩:=h;exact⟨σ',H',I.unwish,q⟩
 | cont=>obtain⟨σ',H',I,q⟩:=h;exact⟨σ',H',I.unwish,q⟩
 | ret u=>obtain⟨v,σ',H',I,r,q⟩:=h;exact⟨v,σ',H',I.unwish,r,q⟩
theorem PSs.nox {st:List Stmt}{t:TS}(h:PSs X.nox st t):PSs X st t:=λ pins s σ H D I hw=>
 wpAny_mono (h pins s σ H D (I.wish _) hw) (λ _ _ q=>q.unwish) λ _ _ z=>False.elim z
end
section
variable {X:Cx}{st:Stmt}{rest:List Stmt}{t u:TS}{e:Expr}{te:TE}{pos:Pos}
def tNext:TS:=λ D σ H=>D.nx σ H
def tSeq (t u:TS):TS:=λ D σ H=>t { D with nx:=u D } σ H
theorem pss_nil:PSs X [] tNext:=λ _ _ σ H _ I h=>wpAny_execs_nil ⟨σ,H,I,h⟩
theorem pss_cons (h1:PS X st t)(h2:PSs X rest u):PSs X (st :: rest) (tSeq t u):=by
 intro pins s σ H D I h
 refine wpAny_execs_cons (thn (h1 pins s σ H { D with nx:=u D } I h) λ f s1 q=>?_)
 cases f with
 | next=>
  obtain⟨σ',H',I',q⟩:=q
  exact h2 pins s1 σ' H' D I' q
 | ret v=>exact q
 | brk=>exact q
 | cont=>exact q
theorem pss_one (h1:PS X st t):PSs X [st] t:=by
 intro pins s σ H D I h
 refine wpAny_execs_cons (thn (h1 pins s σ H D I h) λ f s1 q=>?_)
 cases f with
 | next=>exact wpAny_execs_nil q
 | ret v=>exact q
 | brk=>exact q
 | cont=>exact q
def tRet (te:TE):TS:=λ D σ H=>te σ H D.rt
theorem ps_ret (he:PE X e te):PS X (.Return (some e) pos) (tRet te):=by
 intro pins s σ H D I h
 exact wpAny_Return_some (thn (he pins s σ H _ I h) λ v s1 ⟨x,H1,I1,r1,q1⟩=>⟨x,σ,H1,I1,r1,q1⟩)
def tIfS (c:TT)(t u:TS):TS:=λ D σ H=>c σ H λ b H1=>if b=true then t D σ H1 else u D σ H1
theorem ps_if {c:Expr}{a b:List Stmt}{tc:TT}(hc:PT X c tc)(ha:PSs X a t)(hb:PSs X b u):PS X (.If c a b pos) (tIfS tc t u):=by
 intro pins s σ H D I h
 refine wpAny_If (thn (hc pins s σ H _ I h) λ d s1 ⟨H1,I1,q1⟩=>?_)
 cases d with
 | true=>exact ha pins s1 σ H1 D I1 q1
 | false=>exact hb pins s1 σ H1 D I1 q1
end
abbrev TG:=V->St->Hp->(St->Hp->Prop)->Prop
abbrev TGs:=List V->St->Hp->(St->Hp->Prop)->Prop
def PG (X:Cx)(target:Expr)(t:TG):Prop:=
 ∀ (pins:List (Addr × Obj)) (s:Shared) (σ:St) (H:Hp) (v:V) (u:Value) (Q:St->Hp->Prop),Inv X pins σ H s->RelV v u->t v σ H Q->
  wpAny (model X.prog X.w) X.A (assign target X.env u) (λ _ s'=>∃ σ' H',Inv X pins σ' H' s'/\Q σ' H') X.xe s
def PGs (X:Cx)(ts:List Expr)(t:TGs):Prop:=
 ∀ (pins:List (Addr × Obj)) (s:Shared) (σ:St) (H:Hp) (vs:List V) (us:List Value) (Q:St->Hp->Prop),Inv X pins σ H s->Vals vs us->t vs σ H Q->
  wpAny (model X.prog X.w) X.A (assignInOrder ((assignEach ts X.env).map (·.2)) us) (λ _ s'=>∃ σ' H',Inv X pins σ' H' s'/\Q σ' H') X.xe s
abbrev TSet:=V->V->V->Hp->(Hp->Prop)->Prop
def PSet (X:Cx)(t:TSet):Prop:=
 ∀ (pins:List (Addr × Obj)) (s:Shared) (σ:St) (H:Hp) (o i v:V) (ov iv u:Value) (Q:Hp->Prop),Inv X pins σ H s->RelV o ov->RelV i iv->RelV v u->t o i v H Q->
  wpAny (model X.prog X.w) X.A (setItem ov iv u) (λ _ s'=>∃ H',Inv X pins σ H' s'/\Q H') X.xe s
section
variable {X:Cx}{pos:Pos}
def gName (i:Nat):TG:=λ v σ H Q=>Q (σ.set i (some v)) H
theorem pg_name {i:Nat}{x:Str}(hN:X.N.Nodup)(hi:X.N[i]? = some x)(hx:Loc X.env.scope x)(hf:X.fn x=true∨X.env.scope.names.lookup x=some .local:=by first|exact .inl rfl|exact .inr rfl|assumption):PG X (.Name x pos) (gName i):=by
 intro pins s σ H v u Q I r h
 exact wpAny_assign_Name (store_ok I hN hi hx r (λ s' I'=>⟨_,H,I',h⟩) hf)
def gNil:TGs:=λ vs σ H Q=>vs=[]/\Q σ H
def gCons (t:TG)(u:TGs):TGs:=λ vs σ H Q=>∃ v r,vs=v :: r/\t v σ H λ σ' H'=>u r σ' H' Q
theorem pgs_nil:PGs X [] gNil:=by
 intro pins s σ H vs us Q I r h
 obtain⟨e,h⟩:=h
 subst e
 cases r
 exact assignInOrder_nil ⟨σ,H,I,h⟩
theorem pgs_cons {e:Expr}{es:List Expr}{t:TG}{u:TGs}(h1:PG X e t)(h2:PGs X es u)
  (hs:(assignEach (e :: es) X.env).map (·.2)=assign e X.env :: (assignEach es X.env).map (·.2):=by rfl):PGs X (e :: es) (gCons t u):=by
 intro pins s σ H vs us Q I r h
 obtain⟨v,vr,e1,h⟩:=h
 subst e1
 cases r with
 | cons r rr=>
  rw[hs]
  refine assignInOrder_cons (thn (h1 pins s σ H _ _ _ I r h) λ _ s1 ⟨σ1,H1,I1,q1⟩=>?_)
  exact h2 pins s1 σ1 H1 _ _ Q I1 rr q1
def gTup (K:PySem.W.Frag)(n:Nat)(t:TGs):TG:=λ v σ H Q=>∃ a xs,v=.ref a/\SqT K H a xs/\xs.length=n/\t xs σ H Q
theorem pg_tup {es:List Expr}{k:Nat}{t:TGs}{n:Nat}(hc:X.calm=true)(h:PGs X es t)
  (hn:(assignEach es X.env).length=n:=by rfl) (hst:(assignEach es X.env).findIdx? (·.1)=none:=by rfl):PG X (.Tuple es k pos) (gTup X.K n t):=by
 intro pins s σ H v u Q I r hw
 obtain⟨a,xs,e1,hq,hl,hw⟩:=hw
 subst e1
 cases r
 obtain⟨its,rv,ht,hz⟩:=I.tuple hq
 refine assign_Tuple_tuple (I.ok.hd hc) ht (by simp[hn,<-hl,rv.length]) hst λ h' hx=>?_
 have I1:Inv X pins σ H { s with heap:=h' }:=I.kept (t':=s.toks) λ b o e=>hx b o (Nat.ne_of_lt (Heap.lt_size e)) e
 exact h pins _ σ H xs _ Q I1 (by simpa using rv) hw
def gSub (to ti:TE)(t:TSet):TG:=λ v σ H Q=>to σ H λ o H1=>ti σ H1 λ i H2=>t o i v H2 λ H3=>Q σ H3
theorem pg_sub {o i:Expr}{to ti:TE}{t:TSet}(ho:PE X o to)(hi:PE X i ti)(hs:PSet X t)
  (ha:∀ v,assign (.Subscript o i pos) X.env v=(do
   let ov <-holding [v] (eval o X.env)
   let iv <-holding [v,ov] (eval i X.env)
   standAt pos
   holding [v,ov,iv] (setItem ov iv v)
   release [v,ov,iv] []):=by intro _;rfl):PG X (.Subscript o i pos) (gSub to ti t):=by
 intro pins s σ H v u Q I r h
 rw[ha]
 refine wpAny_bind (wpAny_holding (thn (ho pins s σ H _ I h) λ ov s1 ⟨x,H1,I1,r1,q1⟩=>?_))
 refine wpAny_bind (wpAny_holding (thn (hi pins s1 σ H1 _ I1 q1) λ iv s2 ⟨y,H2,I2,r2,q2⟩=>?_))
 refine wpAny_bind (wpAny_standAt (wpAny_bind (wpAny_holding (thn (hs pins s2 σ H2 x y v ov iv u _ I2 r1 r2 r q2) λ _ s3 ⟨H3,I3,q3⟩=>?_))))
 exact wpAny_release ⟨σ,H3,I3,q3⟩
def tAsg (te:TE)(g:TG):TS:=λ D σ H=>te σ H λ x H1=>g x σ H1 D.nx
theorem ps_asg {tg e:Expr}{te:TE}{g:TG}(he:PE X e te)(hg:PG X tg g)(hs:swapsWithSole [tg] e pos.line X.env=pure false:=by rfl)(hw:swappedStores [tg] e X.env=pure none:=by rfl)
  (h1:(assignEach [tg] X.env).map (·.2)=[assign tg X.env]:=by rfl):PS X (.Assign [tg] e pos) (tAsg te g):=by
 intro pins s σ H D I h
 refine wpAny_Assign_stores (thn (he pins s σ H _ I h) λ v s1 ⟨x,H1,I1,r1,q1⟩=>?_) hs hw
 rw[h1]
 exact thn (hg pins s1 σ H1 x v _ I1 r1 q1) λ _ s2 q=>q
theorem ps_set {i:Nat}{x:Str}{e:Expr}{te:TE}{pos':Pos}(hN:X.N.Nodup)(hi:X.N[i]? = some x)(hx:Loc X.env.scope x)(he:PE X e te)(hs:swapsWith e (some (.Name x pos')) pos.line X.env=pure false:=by rfl) (hf:X.fn x=true∨X.env.scope.names.lookup x=some .local:=by first|exact .inl rfl|exact .inr rfl|assumption) :
  PS X (.Assign [.Name x pos'] e pos) (tAsg te (gName i)):=by
 intro pins s σ H D I h
 refine wpAny_Assign_Name (thn (he pins s σ H _ I h) λ v s1 ⟨y,H1,I1,r1,q1⟩=>?_) hs
 exact store_ok I1 hN hi hx r1 (λ s2 I2=>⟨_,H1,I2,q1⟩) hf
def tPar (i j:Nat)(ta:TA):TS:=λ D σ H=>ta σ H λ vs H1=>∃ v w,vs=[v,w]/\D.nx ((σ.set i (some v)).set j (some w)) H1
theorem ps_par {i j:Nat}{x y:Str}{a b:Expr}{ta:TA}{px py pt:Pos}{kt k2 pt2} (hc:X.calm=true)(hN:X.N.Nodup)(hi:X.N[i]? = some x)(hj:X.N[j]? = some y)(hij:i≠j)
  (hx:X.env.scope.names.lookup x=some .local) (hy:X.env.scope.names.lookup y=some .local) (ha:PA X [a,b] ta)
  (hw:swappedStores [.Tuple [.Name x px,.Name y py] kt pt] (.Tuple [a,b] k2 pt2) X.env=pure (some [x,y]))
  (hs:swapsWithSole [.Tuple [.Name x px,.Name y py] kt pt] (.Tuple [a,b] k2 pt2) pos.line X.env=pure false:=by rfl) :
  PS X (.Assign [.Tuple [.Name x px,.Name y py] kt pt] (.Tuple [a,b] k2 pt2) pos) (tPar i j ta):=by
 intro pins s σ H D I h
 rw[exec_Assign_arm]
 refine wpAny_bind (wpAny_standAt ?_)
 rw[hs]
 refine wpAny_bind (wpAny_pure ?_)
 rw[if_neg (by decide)]
 refine wpAny_bind (Tuple_ (thn (ha _ pins s σ H _ I h) λ us s1 ⟨vs,H1,I1,r1,q1⟩=>?_))
 obtain⟨v,w,e1,q1⟩:=q1
 subst e1
 obtain⟨u1,u2,rfl,rv,rw'⟩:∃ u1 u2,us=[u1,u2]/\RelV v u1/\RelV w u2:=by
  cases r1 with
  | cons p q=>
   cases q with
   | cons p' q'=>
    cases q'
    exact⟨_,_,rfl,p,p'⟩
 refine wpAny_newObj_type ?_ (by show 2<=sizeLine;decide)
 have I2:Inv X pins σ H1 { s1 with heap:=s1.heap.push { cls:=.type "tuple",data:=.seq [u1,u2].toArray } }:=I1.kept (t':=s1.toks) λ b o e=>Heap.get?_push_of_some _ e
 rw[hw]
 refine wpAny_bind (wpAny_pure ?_)
 show wpAny (model X.prog X.w) X.A (do rule "assign.swapped-stores";let items <-unpackItems (.ref s1.heap.objs.size) 2 none;assignInOrder [λ v=>bindName X.env y v,λ v=>bindName X.env x v] items.reverse;pure Flow.next) _ _ _
 refine wpAny_bind (wpAny_rule (wpAny_bind (unpackItems_tuple (items:=#[u1,u2]) (I.ok.hd hc) (IsTup.new s1.heap _) λ h' hx'=>?_)))
 have I3:=I2.kept (h':=h') (t':=s1.toks) λ b o e=>hx' b o (Nat.ne_of_lt (Heap.lt_size e)) e
 show wpAny _ _ (assignInOrder [λ v=>bindName X.env y v,λ v=>bindName X.env x v] [u2,u1] >>= λ _=>pure Flow.next) _ _ _
 refine wpAny_bind (assignInOrder_cons (wpAny_bindName (store_ok I3 hN hj (.inl hy) rw' (λ s2 I4=>?_) (.inr hy))))
 refine assignInOrder_cons (wpAny_bindName (store_ok I4 hN hi (.inl hx) rv (λ s3 I5=>assignInOrder_nil (wpAny_pure ?_)) (.inr hx)))
 rw[List.set_comm _ _ (Ne.symm hij)]at I5
 exact⟨_,H1,I5,q1⟩
end
section
variable {X:Cx}{pos:Pos}
def tWhile (c:TT)(tb:TS):TS:=λ D σ H=>∃ W:Nat->St->Hp->Prop,(∃ m,W m σ H)/\∀ m σ H,W m σ H->
 c σ H λ b H1=>if b=true then ∃ N:St->Hp->Prop,(∀ σ' H',N σ' H'->∃ m',m' < m/\W m' σ' H')/\tb { D with nx:=N,ct:=N,bk:=D.nx } σ H1 else D.nx σ H1
theorem ps_while {c:Expr}{body:List Stmt}{tc:TT}{tb:TS}(hp:PassesOwn (model X.prog X.w) X.A X.env X.xe) (hc:PT X c tc)(hb:PSs X body tb):PS X (.While c body [] pos) (tWhile tc tb):=by
 intro pins s σ H D I h
 obtain⟨W,⟨m0,w0⟩,turn⟩:=h
 refine wpAny_While (codeAny_whileLoop (λ n s'=>∃ σ' H',Inv X pins σ' H' s'/\W n σ' H') ?_ m0 ⟨σ,H,I,w0⟩)
 rintro n s1 ⟨σ1,H1,I1,w1⟩
 refine wpAny_passesOwn hp (thn (hc pins s1 σ1 H1 _ I1 (turn n σ1 H1 w1)) λ b s2 ⟨H2,I2,q2⟩=>?_)
 cases b with
 | true=>
  obtain⟨N,hN,q2⟩:=q2
  rw[if_pos rfl]
  refine wpAny_passesOwn hp (thn (hb pins s2 σ1 H2 _ I2 q2) λ f s3 q3=>?_)
  cases f with
  | next=>
   obtain⟨σ3,H3,I3,n3⟩:=q3
   obtain⟨m',hm,w3⟩:=hN σ3 H3 n3
   exact⟨m',hm,σ3,H3,I3,w3⟩
  | cont=>
   obtain⟨σ3,H3,I3,n3⟩:=q3
   obtain⟨m',hm,w3⟩:=hN σ3 H3 n3
   exact⟨m',hm,σ3,H3,I3,w3⟩
  | brk=>exact q3
  | ret v=>exact q3
 | false=>
  rw[if_neg Bool.false_ne_true]
  exact wpAny_execs_nil ⟨σ1,H2,I2,q2⟩
end
structure It where
 go:Nat->Hp->Prop
 yld:Nat->Hp->V->Hp->Prop
 stop:Nat->Hp->Prop
def FpOk (X:Cx)(pins:List (Addr × Obj)) (H:Hp)(b:Addr):Prop:=
 H b=none/\b≠X.env.locals/\b∉X.fs/\(b∈X.ex∨X.s₀.heap.objs.size<=b)/\(∀ x c,X.env.cells.lookup x=some c->c≠b)/\∀ p∈X.pn++pins,p.1≠b
theorem Inv.fpOk {X:Cx}{pins:List (Addr × Obj)}{σ:St}{H H':Hp}{s:Shared}{b:Addr}(I:Inv X pins σ H s)(hb:s.heap.objs.size<=b)(hn:H' b=none):FpOk X pins H' b:=by
 refine⟨hn,Nat.ne_of_gt (Nat.lt_of_lt_of_le I.lt hb),I.nofs hb,.inr (Nat.le_trans I.sz hb),λ x c e z=>?_,λ p hp z=>?_⟩
 ·obtain⟨v,q⟩:=I.cell x c e
  exact absurd (Nat.lt_of_lt_of_le q.lt (by rw[z];exact hb)) (Nat.lt_irrefl _)
 ·exact absurd (Nat.lt_of_lt_of_le (Heap.lt_size (I.pin p hp).1) (by rw[z];exact hb)) (Nat.lt_irrefl _)
structure Turn (P:Program)(w:World)(K:PySem.W.Frag)(tg:Expr)(J:It)(fp:List Addr)(it:Addr)(tn:Nat->Heap->Prop):Prop where
 mem:it∈fp
 obj:∀ i h,tn i h->∀ b∈fp,∃ o,h.get? b=some o/\∀ v,o.data≠.cell v
 keep:∀ i h h',tn i h->(∀ b∈fp,∀ o,h.get? b=some o->h'.get? b=some o)->tn i h'
 item:∀ (X:Cx),X.prog=P->X.w=w->X.K=K->X.calm=true->∀ (i:Nat) (pins:List (Addr × Obj)) (s:Shared) (σ:St) (H:Hp) (E:Value->Shared->Prop),Inv X pins σ H s->(∀ b∈fp,FpOk X pins H b)->tn i s.heap->J.go i H->
  wpAny (model P w) X.A (pyNext (.ref it)) (λ r s1=>∃ u,r=some u/\
   wpAny (model P w) X.A (letOwnedTupleGo tg (.ref it) u) (λ _ s2=>∃ x H',Inv X pins σ H' s2/\RelV x u/\J.yld i H x H'/\tn (i+1) s2.heap/\∀ b∈fp,H' b=none) E s1) E s
 done:∀ (X:Cx),X.prog=P->X.w=w->X.K=K->X.calm=true->∀ (i:Nat) (pins:List (Addr × Obj)) (s:Shared) (σ:St) (H:Hp) (E:Value->Shared->Prop),Inv X pins σ H s->(∀ b∈fp,FpOk X pins H b)->tn i s.heap->J.stop i H->
  wpAny (model P w) X.A (pyNext (.ref it)) (λ r s1=>r=none/\Inv X pins σ H s1) E s
 self:∀ (A:Around) (i:Nat) (s:Shared) (Q:Value->Shared->Prop) (E:Value->Shared->Prop),tn i s.heap->Q (.ref it) s->wpAny (model P w) A (pyIter (.ref it)) Q E s
abbrev TI:=St->Hp->(It->Hp->Prop)->Prop
def PIE (X:Cx)(pins:List (Addr × Obj)) (σ:St)(tg:Expr)(R:It->Hp->Prop)(itv:Value)(s2:Shared):Prop:=
 ∃ (it:Addr) (fp:List Addr) (tn:Nat->Heap->Prop) (J:It) (H':Hp),itv=.ref it/\Inv X pins σ H' s2/\Turn X.prog X.w X.K tg J fp it tn/\tn 0 s2.heap/\(∀ b∈fp,FpOk X pins H' b)/\R J H'
def PI (X:Cx)(tg iter:Expr)(wi:TI):Prop:=
 ∀ (pins:List (Addr × Obj)) (s:Shared) (σ:St) (H:Hp) (R:It->Hp->Prop),Inv X pins σ H s->wi σ H R->
  wpAny (model X.prog X.w) X.A (eval iter X.env) (λ v s1=>wpAny (model X.prog X.w) X.A (pyIter v) (PIE X pins σ tg R) X.xe s1) X.xe s
theorem go_of {M:Model}{A:Around}{E:Value->Shared->Prop}{s:Shared}{tg:Expr}{it:Addr}{u:Value}{o:Obj}{n:String}{vs:Array Value}{Q:Unit->Shared->Prop}(ho:s.heap.get? it=some o)(hc:o.cls=.type n)(hd:o.data=.fields vs)
    (hn:["enumerate","zip","dict_itemiterator","dict_reverseitemiterator","odict_iterator","itertools.zip_longest","itertools.pairwise"].contains n=false) (hQ:Q () s):wpAny M A (letOwnedTupleGo tg (.ref it) u) Q E s:=by
  unfold letOwnedTupleGo
  cases tg<;>first
    | exact wpAny_pure hQ
    | (cases u<;>first
        | exact wpAny_pure hQ
        | (refine wpAny_bind (wpAny_load ho ?_)
           rw[hc,hd]
           show wpAny M A (if (["enumerate","zip","dict_itemiterator","dict_reverseitemiterator","odict_iterator","itertools.zip_longest","itertools.pairwise"].contains n && vs[0]? == some (rawInt _))=true then _ else _) Q E s
           rw[if_neg (by intro h;rw[hn,Bool.false_and]at h;cases h)]
           exact wpAny_pure hQ))
def Itl (K:PySem.W.Frag)(a:Addr):It:=
 ⟨λ i H=>∃ xs x,SqL K H a xs/\xs[i]? = some x,λ i H x H'=>H'=H/\∀ xs,SqL K H a xs->xs[i]? = some x,λ i H=>∃ xs,SqL K H a xs/\xs.length<=i⟩
def Itt (K:PySem.W.Frag)(a:Addr):It:=
 ⟨λ i H=>∃ xs x,SqT K H a xs/\xs[i]? = some x,λ i H x H'=>H'=H/\∀ xs,SqT K H a xs->xs[i]? = some x,λ i H=>∃ xs,SqT K H a xs/\xs.length<=i⟩
def Itr (lo:Int)(n:Nat):It:=⟨λ i _=>i < n,λ i H x H'=>H'=H/\x=.int (lo+i),λ i _=>n<=i⟩
theorem turn_list {P:Program}{w:World}{K:PySem.W.Frag}{tg:Expr}(a it:Addr):Turn P w K tg (Itl K a) [it] it (λ i h=>h.IsListIter it a i) where
 mem:=by simp
 obj:=λ i h st b hb=>by
  have e:b=it:=by simpa using hb
  subst e
  obtain⟨o,e,c,d⟩:=st
  exact⟨o,e,λ v z=>by rw[d]at z;cases z⟩
 keep:=λ i h h' st k=>st.at λ o e=>k it (by simp) o e
 item:=by
  intro X hP hw hK hc i pins s σ H E I hf st hg
  subst hP hw hK
  obtain⟨xs,x,hq,hx⟩:=hg
  obtain⟨its,rv,p,hz⟩:=I.list hq
  obtain⟨u,hu,ru⟩:=rv.get hx
  obtain⟨f0,f1,f2,f3,f4,f5⟩:=hf it (by simp)
  refine wpAny_pyNext_list_item st p.isList (x:=u) (by simpa using hu) λ h' st' sb=>?_
  have I1:Inv X pins σ H { s with heap:=h' }:=I.turned (t':=s.toks) (λ b o hb e=>(sb.2 b hb).trans e) f0 f1 f3 f4 f5
  obtain⟨o,e,c,d⟩:=id st'
  exact⟨u,rfl,go_of (s:={ s with heap:=h' }) e c d (by decide) ⟨x,H,I1,ru,⟨rfl,λ ys hy=>by rw[I.list_inj hy hq];exact hx⟩,st',λ b hb=>(hf b hb).1⟩⟩
 done:=by
  intro X hP hw hK hc i pins s σ H E I hf st hg
  subst hP hw hK
  obtain⟨xs,hq,hx⟩:=hg
  obtain⟨its,rv,p,hz⟩:=I.list hq
  obtain⟨f0,f1,f2,f3,f4,f5⟩:=hf it (by simp)
  have hl:=rv.length
  exact wpAny_pyNext_list_end (I.ok.hd hc) st p.isList (by simp;omega) λ h' eb=>⟨rfl,I.turned (t':=s.toks) (λ b o hb e=>eb b o hb e) f0 f1 f3 f4 f5⟩
 self:=λ _ _ _ _ _ st h=>wpAny_pyIter_listiter st h
theorem turn_tuple {P:Program}{w:World}{K:PySem.W.Frag}{tg:Expr}(a it:Addr):Turn P w K tg (Itt K a) [it] it (λ i h=>h.IsTupleIter it a i) where
 mem:=by simp
 obj:=λ i h st b hb=>by
  have e:b=it:=by simpa using hb
  subst e
  obtain⟨o,e,c,d⟩:=st
  exact⟨o,e,λ v z=>by rw[d]at z;cases z⟩
 keep:=λ i h h' st k=>st.at λ o e=>k it (by simp) o e
 item:=by
  intro X hP hw hK hc i pins s σ H E I hf st hg
  subst hP hw hK
  obtain⟨xs,x,hq,hx⟩:=hg
  obtain⟨its,rv,p,hz⟩:=I.tuple hq
  obtain⟨u,hu,ru⟩:=rv.get hx
  obtain⟨f0,f1,f2,f3,f4,f5⟩:=hf it (by simp)
  refine wpAny_pyNext_tuple_item st (show s.heap.IsTuple a its.toArray from p) (x:=u) (by simpa using hu) λ h' st' sb=>?_
  have I1:Inv X pins σ H { s with heap:=h' }:=I.turned (t':=s.toks) (λ b o hb e=>(sb.2 b hb).trans e) f0 f1 f3 f4 f5
  obtain⟨o,e,c,d⟩:=id st'
  exact⟨u,rfl,go_of (s:={ s with heap:=h' }) e c d (by decide) ⟨x,H,I1,ru,⟨rfl,λ ys hy=>by rw[I.tuple_inj hy hq];exact hx⟩,st',λ b hb=>(hf b hb).1⟩⟩
 done:=by
  intro X hP hw hK hc i pins s σ H E I hf st hg
  subst hP hw hK
  obtain⟨xs,hq,hx⟩:=hg
  obtain⟨its,rv,p,hz⟩:=I.tuple hq
  obtain⟨f0,f1,f2,f3,f4,f5⟩:=hf it (by simp)
  have hl:=rv.length
  exact wpAny_pyNext_tuple_end (I.ok.hd hc) st (show s.heap.IsTuple a its.toArray from p) (by simp;omega) λ h' eb=>⟨rfl,I.turned (t':=s.toks) (λ b o hb e=>eb b o hb e) f0 f1 f3 f4 f5⟩
 self:=λ _ _ _ _ _ st h=>wpAny_pyIter_tupleiter st h
theorem turn_range {P:Program}{w:World}{K:PySem.W.Frag}{tg:Expr}(it:Addr)(lo:Int)(n:Nat):Turn P w K tg (Itr lo n) [it] it (λ i h=>IsRangeIter h it (lo+(i:Nat) * 1) ((n:Int) - (i:Nat)) 1) where
 mem:=by simp
 obj:=λ i h st b hb=>by
  have e:b=it:=by simpa using hb
  subst e
  exact⟨_,st,λ v z=>by
   have z':Data.fields _=Data.cell v:=z
   cases z'⟩
 keep:=λ i h h' st k=>k it (by simp) _ st
 item:=by
  intro X hP hw hK hc i pins s σ H E I hf st hg
  subst hP hw hK
  obtain⟨f0,f1,f2,f3,f4,f5⟩:=hf it (by simp)
  have W:=Walks.range (prog:=X.prog) (w:=X.w) (I.ok.hd hc) it lo 1 n
  refine W.item i s _ _ hg st λ v h' tk hv st' kk=>?_
  obtain⟨t,rfl⟩:=hv
  have I1:Inv X pins σ H { s with heap:=h',toks:=tk }:=I.turned (λ b o hb e=>kk b o (by simpa using hb) e) f0 f1 f3 f4 f5
  refine⟨_,rfl,go_of (s:={ s with heap:=h',toks:=tk }) (n:="range_iterator") st' rfl rfl (by decide) ⟨.int (lo+i),H,I1,⟨t,?_⟩,⟨rfl,rfl⟩,st',λ b hb=>(hf b hb).1⟩⟩
  rw[Int.mul_one]
 done:=by
  intro X hP hw hK hc i pins s σ H E I hf st hg
  subst hP hw hK
  obtain⟨f0,f1,f2,f3,f4,f5⟩:=hf it (by simp)
  exact wpAny_pyNext_range_end (I.ok.hd hc) st (by have:n<=i:=hg;omega) λ h' eb=>⟨rfl,I.turned (t':=s.toks) (λ b o hb e=>eb b o hb e) f0 f1 f3 f4 f5⟩
 self:=λ _ _ _ _ _ st h=>wpAny_pyIter_rangeiter st h
end L2
namespace L2
open PySem PySem.Spec PyProof.Rows
section
variable {X:Cx}{tg:Expr}
def iList (K:PySem.W.Frag)(tl:TE):TI:=λ σ H R=>tl σ H λ x H1=>∃ a,x=.ref a/\(∃ xs,SqL K H1 a xs)/\R (Itl K a) H1
theorem pi_list {l:Expr}{tl:TE}(hl:PE X l tl):PI X tg l (iList X.K tl):=by
 intro pins s σ H R I h
 refine thn (hl pins s σ H _ I h) λ v s1 ⟨x,H1,I1,r1,q1⟩=>?_
 obtain⟨a,e,⟨xs,hq⟩,q⟩:=q1
 subst e
 cases r1
 obtain⟨its,rv,p,hz⟩:=I1.list hq
 refine wpAny_pyIter_list p.isList ?_
 refine⟨s1.heap.objs.size,[s1.heap.objs.size],_,_,H1,rfl,I1.kept (t':=s1.toks) λ b o e=>Heap.get?_push_of_some _ e,turn_list a _,⟨_,Heap.get?_push_size _ rfl,rfl,rfl⟩,λ b hb=>?_,q⟩
 have e:b=s1.heap.objs.size:=by simpa using hb
 subst e
 exact I1.fpOk (Nat.le_refl _) (I1.hok.fresh (Nat.le_refl _))
theorem range_it {pins:List (Addr × Obj)}{σ:St}{H:Hp}{s:Shared}{R:It->Hp->Prop}{E:Value->Shared->Prop}{lo hi:Int}{t u v:Tok}{tk:Nat}(I:Inv X pins σ H s)(h1:-(2 ^ 62)<=lo) (h2:lo < 2 ^ 62)(h3:-(2 ^ 62)<=hi) (h4:hi < 2 ^ 62)
  (q:R (Itr lo (hi - lo).toNat) H):wpAny (model X.prog X.w) X.A (pyIter (.ref s.heap.objs.size)) (PIE X pins σ tg R) E { s with heap:=s.heap.push { cls:=.type "range",data:=.fields #[.int lo t,.int hi u,.int 1 v] },toks:=tk }:=by
 refine wpAny_pyIter_range (IsRange.new ..) (small_one h1 h2 h3 h4) ?_
 have I1:Inv X pins σ H { s with heap:=s.heap.push { cls:=.type "range",data:=.fields #[.int lo t,.int hi u,.int 1 v] },toks:=tk }:=I.kept λ b o e=>Heap.get?_push_of_some _ e
 refine⟨(s.heap.push { cls:=.type "range",data:=.fields #[.int lo t,.int hi u,.int 1 v] }).objs.size,[(s.heap.push { cls:=.type "range",data:=.fields #[.int lo t,.int hi u,.int 1 v] }).objs.size],_,_,H,rfl,
  I1.kept (t':=tk) λ b o e=>Heap.get?_push_of_some _ e,turn_range _ lo (hi - lo).toNat,?_,λ b hb=>?_,q⟩
 ·have e1:lo+((0:Nat):Int) * 1=lo:=by simp
  have e2:(((hi - lo).toNat:Nat):Int) - ((0:Nat):Int)=Builtin.Range.rangeSize lo hi 1:=by rw[rangeSize_one];split<;>omega
  show IsRangeIter _ _ (lo+((0:Nat):Int) * 1) ((((hi - lo).toNat:Nat):Int) - ((0:Nat):Int)) 1
  rw[e1,e2]
  exact Heap.get?_push_size _ rfl
 ·have e:b=(s.heap.push { cls:=.type "range",data:=.fields #[.int lo t,.int hi u,.int 1 v] }).objs.size:=by simpa using hb
  subst e
  exact I1.fpOk (Nat.le_refl _) (I1.hok.fresh (Nat.le_refl _))
def iRng1 (ta:TA):TI:=λ σ H R=>ta σ H λ vs H1=>∃ j:Int,vs=[.int j]/\-(2 ^ 62)<=j/\j < 2 ^ 62/\R (Itr 0 j.toNat) H1
theorem pi_range1 {a:Expr}{ta:TA}{p pos:Pos}(hg:Gl X "range")(hm:X.mg "range"=none)(ha:PA X [a] ta)(hs:starEach [a] X.env=[(false,eval a X.env)]:=by rfl):PI X tg (.Call (.Name "range" p) [a] [] pos) (iRng1 ta):=by
 intro pins s σ H R I h
 refine Call_ (ld_blt I hg hm boot_range (PyProof.Rows.callWith_type1 (thn (ha pos pins s σ H _ I h) λ us s1 ⟨vs,H1,I1,r1,q1⟩=>?_) hs rfl))
 obtain⟨j,e,q1,q2,q⟩:=q1
 subst e
 cases r1 with
 | cons r rr=>
  cases rr
  obtain⟨t,rfl⟩:=r
  exact call_range_1 (range_it I1 (by omega) (by omega) q1 q2 (by simpa using q))
def tFor (wi:TI)(g:TG)(tb:TS):TS:=λ D σ H=>wi σ H λ J H1=>∃ W:Nat->Nat->St->Hp->Prop,(∃ m,W 0 m σ H1)/\∀ i m σ H,W i m σ H->
 (J.stop i H/\D.nx σ H)∨(J.go i H/\∃ N:St->Hp->Prop,(∀ σ' H',N σ' H'->∃ m',m' < m/\W (i+1) m' σ' H')/\∀ x H',J.yld i H x H'->g x σ H' λ σ2 H2=>tb { D with nx:=N,ct:=N,bk:=D.nx } σ2 H2)
def pinsAt (fp:List Addr)(h:Heap):List (Addr × Obj):=fp.filterMap λ b=>(h.get? b).map λ o=>(b,o)
theorem mem_pinsAt {fp:List Addr}{h:Heap}{b:Addr}{o:Obj}(hb:b∈fp)(e:h.get? b=some o):(b,o)∈pinsAt fp h:=List.mem_filterMap.mpr ⟨b,hb,by rw[e];rfl⟩
theorem of_pinsAt {fp:List Addr}{h:Heap}{p:Addr × Obj}(hp:p∈pinsAt fp h):p.1∈fp/\h.get? p.1=some p.2:=by
 obtain⟨b,hb,e⟩:=List.mem_filterMap.mp hp
 cases q:h.get? b with
 | none=>rw[q]at e;cases e
 | some o=>
  rw[q]at e
  have e':(b,o)=p:=Option.some.inj e
  subst e'
  exact⟨hb,q⟩
theorem Inv.pinned {pins:List (Addr × Obj)}{σ:St}{H:Hp}{s:Shared}{fp:List Addr}(I:Inv X pins σ H s)(hf:∀ b∈fp,FpOk X pins H b)(ho:∀ b∈fp,∃ o,s.heap.get? b=some o/\∀ v,o.data≠.cell v):Inv X (pins++pinsAt fp s.heap) σ H s:=
 I.pins_of λ p hp=>(List.mem_append.mp hp).elim (λ z=>I.pin p (List.mem_append_right _ z)) λ z=>by
  obtain⟨hb,e⟩:=of_pinsAt z
  obtain⟨f0,f1,f2,_⟩:=hf p.1 hb
  obtain⟨o,e',d⟩:=ho p.1 hb
  rw[e]at e';cases e'
  exact⟨e,f0,f1,f2,d⟩
theorem Inv.unpinned {pins pl:List (Addr × Obj)}{σ:St}{H:Hp}{s:Shared}(I:Inv X (pins++pl) σ H s):Inv X pins σ H s:=I.pins_of λ p hp=>I.pin p (List.mem_append_right _ (List.mem_append_left _ hp))
theorem ps_for {iter:Expr}{body:List Stmt}{wi:TI}{g:TG}{tb:TS}{pos:Pos}(hp:PassesOwn (model X.prog X.w) X.A X.env X.xe) (hc:X.calm=true)(hi:PI X tg iter wi)(hg:PG X tg g)(hb:PSs X body tb)
  (hs:∀ x,foldedSetIterable iter X.env x=pure x:=by intro _;rfl):PS X (.For tg iter body [] pos) (tFor wi g tb):=by
 intro pins s σ H D I h
 refine wpAny_For (thn (hi pins s σ H _ I h) λ v s1 h1=>thn h1 λ itv s2 h2=>?_) hs
 obtain⟨it,fp,tn,J,H2,e,I2,T,st2,f2,W,⟨m0,w0⟩,turn⟩:=h2
 subst e
 have stat:∀ {H':Hp},(∀ b∈fp,H' b=none)->∀ b∈fp,FpOk X pins H' b:=λ hn b hb=>⟨hn b hb,(f2 b hb).2⟩
 refine codeAny_forLoop_any (λ n s'=>∃ i σ' H',Inv X pins σ' H' s'/\tn i s'.heap/\(∀ b∈fp,H' b=none)/\W i n σ' H') ?_ m0 ⟨0,σ,H2,I2,st2,λ b hb=>(f2 b hb).1,w0⟩
 rintro n s3 ⟨i,σ3,H3,I3,st3,fr3,w3⟩
 rcases turn i n σ3 H3 w3 with⟨stop,qn⟩|⟨go,N,hN,step⟩
 ·refine wpAny_passesOwn hp (thn (T.done X rfl rfl rfl hc i pins s3 σ3 H3 X.xe I3 (stat fr3) st3 stop) λ r s4 ⟨hr,I4⟩=>?_)
  subst hr
  exact wpAny_execs_nil ⟨σ3,H3,I4,qn⟩
 ·refine wpAny_passesOwn hp (thn (T.item X rfl rfl rfl hc i pins s3 σ3 H3 X.xe I3 (stat fr3) st3 go) λ r s4 ⟨u,hr,h4⟩=>?_)
  subst hr
  refine wpAny_passesOwn hp (thn h4 λ _ s5 ⟨x,H5,I5,r5,y5,st5,fr5⟩=>?_)
  have I5':=I5.pinned (stat fr5) (T.obj _ _ st5)
  refine wpAny_passesOwn hp (thn (hg _ s5 σ3 H5 x u _ I5' r5 (step x H5 y5)) λ _ s6 ⟨σ6,H6,I6,q6⟩=>?_)
  refine wpAny_passesOwn hp (thn (hb _ s6 σ6 H6 _ I6 q6) λ f s7 q7=>?_)
  have again:∀ {σ7:St}{H7:Hp},Inv X (pins++pinsAt fp s5.heap) σ7 H7 s7->N σ7 H7->∃ m,m < n/\∃ i σ' H',Inv X pins σ' H' s7/\tn i s7.heap/\(∀ b∈fp,H' b=none)/\W i m σ' H':=λ {σ7 H7} I7 n7=>by
   obtain⟨m',hm,w7⟩:=hN σ7 H7 n7
   refine⟨m',hm,i+1,σ7,H7,I7.unpinned,T.keep _ _ _ st5 λ b hb o e=>(I7.pin (b,o) (List.mem_append_right _ (List.mem_append_right _ (mem_pinsAt hb e)))).1,λ b hb=>?_,w7⟩
   obtain⟨o,e,d⟩:=T.obj _ _ st5 b hb
   exact(I7.pin (b,o) (List.mem_append_right _ (List.mem_append_right _ (mem_pinsAt hb e)))).2.1
  cases f with
  | next=>obtain⟨σ7,H7,I7,n7⟩:=q7;exact again I7 n7
  | cont=>obtain⟨σ7,H7,I7,n7⟩:=q7;exact again I7 n7
  | brk=>obtain⟨σ7,H7,I7,q7⟩:=q7;exact⟨σ7,H7,I7.unpinned,q7⟩
  | ret v=>obtain⟨x7,σ7,H7,I7,r7,q7⟩:=q7;exact⟨x7,σ7,H7,I7.unpinned,r7,q7⟩
end
end L2
namespace L2
open PySem PySem.Spec PyProof.Rows
abbrev R2:=V->V->Hp->VK->Prop
def OpR (X:Cx)(f:Value->Value->Sem Value)(r:R2):Prop:=
 ∀ (pins:List (Addr × Obj)) (s:Shared) (σ:St) (H:Hp) (x y:V) (v u:Value) (Q:VK),Inv X pins σ H s->RelV x v->RelV y u->r x y H Q->
  wpAny (model X.prog X.w) X.A (f v u) (EP X pins σ Q) X.xe s
def UnR (X:Cx)(f:Value->Sem Value)(r:V->Hp->VK->Prop):Prop:=
 ∀ (pins:List (Addr × Obj)) (s:Shared) (σ:St) (H:Hp) (x:V) (v:Value) (Q:VK),Inv X pins σ H s->RelV x v->r x H Q->
  wpAny (model X.prog X.w) X.A (f v) (EP X pins σ Q) X.xe s
def CallR (X:Cx)(f:Value)(r:List V->Hp->VK->Prop):Prop:=
 ∀ (pins:List (Addr × Obj)) (s:Shared) (σ:St) (H:Hp) (xs:List V) (us:List Value) (Q:VK),Inv X pins σ H s->Vals xs us->r xs H Q->
  wpAny (model X.prog X.w) X.A (call f us) (EP X pins σ Q) X.xe s
def TruR (X:Cx)(r:V->Hp->(Bool->Hp->Prop)->Prop):Prop:=
 ∀ (pins:List (Addr × Obj)) (s:Shared) (σ:St) (H:Hp) (x:V) (v:Value) (Q:Bool->Hp->Prop),Inv X pins σ H s->RelV x v->r x H Q->
  wpAny (model X.prog X.w) X.A (truthy v) (TP X pins σ Q) X.xe s
def tOp (r:R2)(ta tb:TE):TE:=λ σ H Q=>ta σ H λ x H1=>tb σ H1 λ y H2=>r x y H2 Q
def tUn (r:V->Hp->VK->Prop)(ta:TE):TE:=λ σ H Q=>ta σ H λ x H1=>r x H1 Q
def rI (C:Int->Int->Prop)(g:Int->Int->V):R2:=λ x y H Q=>∃ i j,x=.int i/\y=.int j/\C i j/\Q (g i j) H
def rI0 (g:Int->Int->V):R2:=λ x y H Q=>∃ i j,x=.int i/\y=.int j/\Q (g i j) H
def rU (g:Int->V):V->Hp->VK->Prop:=λ x H Q=>∃ i,x=.int i/\Q (g i) H
section
variable {X:Cx}{a b c:Expr}{ta tb tc:TE}{pos:Pos}
theorem binT (ha:PE X a ta)(hb:PE X b tb){pins:List (Addr × Obj)}{s:Shared}{σ:St}{H:Hp}{R:V->V->Hp->Prop}(I:Inv X pins σ H s)
  (h:ta σ H λ x H1=>tb σ H1 λ y H2=>R x y H2) {Q:Value->Shared->Prop}{f:Value->Value->Sem Value}
  (hf:∀ v u s2 x y H2,Inv X pins σ H2 s2->RelV x v->RelV y u->R x y H2->wpAny (model X.prog X.w) X.A (f v u) Q X.xe s2) :
  wpAny (model X.prog X.w) X.A (eval a X.env) (λ v s₁=>wpAny (model X.prog X.w) X.A (eval b X.env) (λ u s₂=>wpAny (model X.prog X.w) X.A (f v u) Q X.xe s₂) X.xe s₁) X.xe s:=by
 refine thn (ha pins s σ H _ I h) λ v s1 ⟨x,H1,I1,r1,q1⟩=>?_
 refine thn (hb pins s1 σ H1 _ I1 q1) λ u s2 ⟨y,H2,I2,r2,q2⟩=>?_
 exact hf v u s2 x y H2 I2 r1 r2 q2
theorem pe_op {op:Operator}{r:R2}(ho:OpR X (binaryOp op) r) (ha:PE X a ta)(hb:PE X b tb):PE X (.BinOp a op b pos) (tOp r ta tb):=by
 intro pins s σ H Q I h
 exact wpAny_BinOp (binT ha hb I h λ v u s2 x y H2 I2 rx ry q=>ho pins s2 σ H2 x y v u Q I2 rx ry q)
theorem pe_un {op:UnaryOp}{r:V->Hp->VK->Prop}(ho:UnR X (unaryOp op) r) (ha:PE X a ta):PE X (.UnaryOp op a pos) (tUn r ta):=by
 intro pins s σ H Q I h
 exact UnaryOp_ (thn (ha pins s σ H _ I h) λ v s1 ⟨x,H1,I1,r1,q1⟩=>ho pins s1 σ H1 x v Q I1 r1 q1)
theorem opI {f:Value->Value->Sem Value}{C:Int->Int->Prop}{g:Int->Int->Int}
  (rule:∀ (i j:Int) (t u:Tok) (s:Shared) (Q:Value->Shared->Prop) (E:Value->Shared->Prop),C i j->Q (.int (g i j) s.toks) { s with toks:=s.toks+1 }->wpAny (model X.prog X.w) X.A (f (.int i t) (.int j u)) Q E s) :
  OpR X f (rI C λ i j=>.int (g i j)):=by
 intro pins s σ H x y v u Q I rx ry h
 obtain⟨i,j,rfl,rfl,hc,q⟩:=h
 obtain⟨t,rfl⟩:=rx
 obtain⟨t',rfl⟩:=ry
 exact rule i j t t' s _ _ hc ⟨.int (g i j),H,I.tok _,⟨_,rfl⟩,q⟩
theorem opI0 {f:Value->Value->Sem Value}{g:Int->Int->Int}
  (rule:∀ (i j:Int) (t u:Tok) (s:Shared) (Q:Value->Shared->Prop) (E:Value->Shared->Prop),Q (.int (g i j) s.toks) { s with toks:=s.toks+1 }->wpAny (model X.prog X.w) X.A (f (.int i t) (.int j u)) Q E s) :
  OpR X f (rI0 λ i j=>.int (g i j)):=by
 intro pins s σ H x y v u Q I rx ry h
 obtain⟨i,j,rfl,rfl,q⟩:=h
 obtain⟨t,rfl⟩:=rx
 obtain⟨t',rfl⟩:=ry
 exact rule i j t t' s _ _ ⟨.int (g i j),H,I.tok _,⟨_,rfl⟩,q⟩
theorem opB0 {f:Value->Value->Sem Value}{g:Int->Int->Bool}
  (rule:∀ (i j:Int) (t u:Tok) (s:Shared) (Q:Value->Shared->Prop) (E:Value->Shared->Prop),Q (.bool (g i j)) s->wpAny (model X.prog X.w) X.A (f (.int i t) (.int j u)) Q E s) :
  OpR X f (rI0 λ i j=>.bl (g i j)):=by
 intro pins s σ H x y v u Q I rx ry h
 obtain⟨i,j,rfl,rfl,q⟩:=h
 obtain⟨t,rfl⟩:=rx
 obtain⟨t',rfl⟩:=ry
 exact rule i j t t' s _ _ ⟨.bl (g i j),H,I,rfl,q⟩
def CPow (i j:Int):Prop:=0<=j/\j<=1000000/\i.natAbs < 2 ^ 64
theorem op_add:OpR X (binaryOp .Add) (rI0 λ i j=>.int (i+j)):=opI0 λ _ _ _ _ _ _ _ q=>add_int q
theorem op_sub:OpR X (binaryOp .Sub) (rI0 λ i j=>.int (i - j)):=opI0 λ _ _ _ _ _ _ _ q=>sub_int q
theorem op_modN:OpR X (binaryOp .Mod) (rI (λ _ j=>j≠0) λ i j=>.int (i.fmod j)):=opI λ _ _ _ _ _ _ _ hc q=>mod_int' hc q
theorem op_pow:OpR X (binaryOp .Pow) (rI CPow λ i j=>.int (i ^ j.toNat)):=opI λ _ _ _ _ _ _ _ hc q=>pow_int_small hc.1 hc.2.1 hc.2.2 q
theorem unI {f:Value->Sem Value}{g:Int->Int}
  (rule:∀ (i:Int) (t:Tok) (s:Shared) (Q:Value->Shared->Prop) (E:Value->Shared->Prop),Q (.int (g i) s.toks) { s with toks:=s.toks+1 }->wpAny (model X.prog X.w) X.A (f (.int i t)) Q E s) :
  UnR X f (rU λ i=>.int (g i)):=by
 intro pins s σ H x v Q I rx h
 obtain⟨i,rfl,q⟩:=h
 obtain⟨t,rfl⟩:=rx
 exact rule i t s _ _ ⟨.int (g i),H,I.tok _,⟨_,rfl⟩,q⟩
theorem un_neg:UnR X (unaryOp .USub) (rU λ i=>.int (-i)):=unI λ _ _ _ _ _ q=>neg_int q
end
def scal:V->V->Bool
 | .non,.non=>true|.non,.int _=>true|.int _,.non=>true|.non,.bl _=>true|.bl _,.non=>true|.non,.str _=>true|.str _,.non=>true
 | .int _,.int _=>true|.bl _,.bl _=>true|.str _,.str _=>true|.byt _,.byt _=>true
 | .int _,.str _=>true|.str _,.int _=>true|.bl _,.str _=>true|.str _,.bl _=>true
 | _,_=>false
def rEq:R2:=λ x y H Q=>scal x y=true/\Q (.bl (decide (x=y))) H
def rNe:R2:=λ x y H Q=>scal x y=true/\Q (.bl (!decide (x=y))) H
theorem dec_int {i j:Int}:decide (V.int i=V.int j)=(i == j):=by
 rw[Bool.eq_iff_iff]
 simp
theorem dec_bl {i j:Bool}:decide (V.bl i=V.bl j)=(i == j):=by
 rw[Bool.eq_iff_iff]
 simp
theorem dec_str {i j:Str}:decide (V.str i=V.str j)=(i == j):=by
 rw[Bool.eq_iff_iff]
 simp
theorem dec_byt {i j:Array UInt8}:decide (V.byt i=V.byt j)=(i.toList == j.toList):=by
 rw[Bool.eq_iff_iff]
 cases i
 cases j
 simp
section
variable {X:Cx}{a b c:Expr}{ta tb tc:TE}{pos:Pos}
theorem fin_bl {pins:List (Addr × Obj)}{σ:St}{H:Hp}{s:Shared}{Q:VK}{k k':Bool}(I:Inv X pins σ H s)(q:Q (.bl k) H) (e:k=k'):EP X pins σ Q (.bool k') s:=by
 subst e
 exact⟨.bl k,H,I,rfl,q⟩
theorem op_eq:OpR X (compareOp .Eq) rEq:=by
 intro pins s σ H x y v u Q I rx ry h
 obtain⟨hs,q⟩:=h
 cases x with
 | non=>
  cases rx
  cases y with
  | non=>cases ry;exact PySem.EqNone.eq_none_none (fin_bl I q (by simp))
  | bl j=>cases ry;exact PySem.EqNone.eq_none_bool (fin_bl I q (by simp))
  | int j=>obtain⟨t',rfl⟩:=ry;exact PySem.EqNone.eq_none_int (fin_bl I q (by simp))
  | str j=>obtain⟨t',rfl⟩:=ry;exact PySem.EqNone.eq_none_str (fin_bl I q (by simp))
  | _=>exact absurd (show false=true from hs) Bool.false_ne_true
 | bl i=>
  cases rx
  cases y with
  | non=>cases ry;exact PySem.EqNone.eq_bool_none (fin_bl I q (by simp))
  | bl j=>cases ry;exact eq_bool (fin_bl I q dec_bl)
  | str j=>obtain⟨t',rfl⟩:=ry;exact PySem.EqMixed.eq_bool_str (fin_bl I q (by simp))
  | _=>exact absurd (show false=true from hs) Bool.false_ne_true
 | int i=>
  obtain⟨t,rfl⟩:=rx
  cases y with
  | non=>cases ry;exact PySem.EqNone.eq_int_none (fin_bl I q (by simp))
  | int j=>obtain⟨t',rfl⟩:=ry;exact eq_int (fin_bl I q dec_int)
  | str j=>obtain⟨t',rfl⟩:=ry;exact PySem.EqMixed.eq_int_str (fin_bl I q (by simp))
  | _=>exact absurd (show false=true from hs) Bool.false_ne_true
 | str i=>
  obtain⟨t,rfl⟩:=rx
  cases y with
  | non=>cases ry;exact PySem.EqNone.eq_str_none (fin_bl I q (by simp))
  | bl j=>cases ry;exact PySem.EqMixed.eq_str_bool (fin_bl I q (by simp))
  | int j=>obtain⟨t',rfl⟩:=ry;exact PySem.EqMixed.eq_str_int (fin_bl I q (by simp))
  | str j=>obtain⟨t',rfl⟩:=ry;exact eq_str (fin_bl I q dec_str)
  | _=>exact absurd (show false=true from hs) Bool.false_ne_true
 | byt i=>
  obtain⟨t,rfl⟩:=rx
  cases y with
  | byt j=>obtain⟨t',rfl⟩:=ry;exact PySem.W.eq_bytes (fin_bl I q dec_byt)
  | _=>exact absurd (show false=true from hs) Bool.false_ne_true
 | _=>cases y<;>exact absurd (show false=true from hs) Bool.false_ne_true
theorem op_ne:OpR X (compareOp .NotEq) rNe:=by
 intro pins s σ H x y v u Q I rx ry h
 obtain⟨hs,q⟩:=h
 cases x with
 | non=>
  cases rx
  cases y with
  | non=>cases ry;exact PySem.EqNone.ne_none_none (fin_bl I q (by simp))
  | bl j=>cases ry;exact PySem.EqNone.ne_none_bool (fin_bl I q (by simp))
  | int j=>obtain⟨t',rfl⟩:=ry;exact PySem.EqNone.ne_none_int (fin_bl I q (by simp))
  | str j=>obtain⟨t',rfl⟩:=ry;exact PySem.EqNone.ne_none_str (fin_bl I q (by simp))
  | _=>exact absurd (show false=true from hs) Bool.false_ne_true
 | bl i=>
  cases rx
  cases y with
  | non=>cases ry;exact PySem.EqNone.ne_bool_none (fin_bl I q (by simp))
  | bl j=>cases ry;exact ne_bool (fin_bl I q (congrArg not dec_bl))
  | str j=>obtain⟨t',rfl⟩:=ry;exact PySem.EqMixed.ne_bool_str (fin_bl I q (by simp))
  | _=>exact absurd (show false=true from hs) Bool.false_ne_true
 | int i=>
  obtain⟨t,rfl⟩:=rx
  cases y with
  | non=>cases ry;exact PySem.EqNone.ne_int_none (fin_bl I q (by simp))
  | int j=>obtain⟨t',rfl⟩:=ry;exact ne_int (fin_bl I q (congrArg not dec_int))
  | str j=>obtain⟨t',rfl⟩:=ry;exact PySem.EqMixed.ne_int_str (fin_bl I q (by simp))
  | _=>exact absurd (show false=true from hs) Bool.false_ne_true
 | str i=>
  obtain⟨t,rfl⟩:=rx
  cases y with
  | non=>cases ry;exact PySem.EqNone.ne_str_none (fin_bl I q (by simp))
  | bl j=>cases ry;exact PySem.EqMixed.ne_str_bool (fin_bl I q (by simp))
  | int j=>obtain⟨t',rfl⟩:=ry;exact PySem.EqMixed.ne_str_int (fin_bl I q (by simp))
  | str j=>obtain⟨t',rfl⟩:=ry;exact ne_str (fin_bl I q (congrArg not dec_str))
  | _=>exact absurd (show false=true from hs) Bool.false_ne_true
 | byt i=>
  obtain⟨t,rfl⟩:=rx
  cases y with
  | byt j=>obtain⟨t',rfl⟩:=ry;exact PySem.W.ne_bytes (fin_bl I q (congrArg not dec_byt))
  | _=>exact absurd (show false=true from hs) Bool.false_ne_true
 | _=>cases y<;>exact absurd (show false=true from hs) Bool.false_ne_true
theorem op_lt:OpR X (compareOp .Lt) (rI0 λ i j=>.bl (decide (i < j))):=opB0 λ _ _ _ _ _ _ _ q=>lt_int q
theorem op_le:OpR X (compareOp .LtE) (rI0 λ i j=>.bl (decide (i<=j))):=opB0 λ _ _ _ _ _ _ _ q=>le_int q
theorem op_gt:OpR X (compareOp .Gt) (rI0 λ i j=>.bl (decide (j < i))):=opB0 λ _ _ _ _ _ _ _ q=>gt_int q
theorem op_ge:OpR X (compareOp .GtE) (rI0 λ i j=>.bl (decide (j<=i))):=opB0 λ _ _ _ _ _ _ _ q=>ge_int q
theorem op_lt_str:OpR X (compareOp .Lt) (λ x y H Q=>∃ i j,x=.str i/\y=.str j/\Q (.bl (decide (i.cps.toList < j.cps.toList))) H):=by
 intro pins s σ H x y v u Q I rx ry h
 obtain⟨i,j,rfl,rfl,q⟩:=h
 obtain⟨t,rfl⟩:=rx
 obtain⟨t',rfl⟩:=ry
 exact lt_str (fin_bl I q rfl)
theorem op_notN:OpR X (compareOp .IsNot) (λ x y H Q=>y=.non/\Q (.bl (!decide (x=.non))) H):=by
 intro pins s σ H x y v u Q I rx ry h
 obtain⟨rfl,q⟩:=h
 cases ry
 refine isnot_none_gen (fin_bl I q ?_)
 cases x<;>first
  | (cases rx;rfl)
  | (obtain⟨t,rfl⟩:=rx;rfl)
theorem op_notin_str:OpR X (compareOp .NotIn) (λ x y H Q=>∃ i j,x=.str i/\y=.str j/\Q (.bl (!(!(Builtin.Str.occurrences j i 0 j.length 1).isEmpty))) H):=by
 intro pins s σ H x y v u Q I rx ry h
 obtain⟨i,j,rfl,rfl,q⟩:=h
 obtain⟨t,rfl⟩:=rx
 obtain⟨t',rfl⟩:=ry
 exact notIn_str (fin_bl I q rfl)
theorem pe_cmpR {op:CmpOp}{r:R2}(ho:OpR X (compareOp op) r) (ha:PE X a ta)(hb:PE X b tb)(hm:behindInMarks op b=false):PE X (.Compare a [op] [b] pos) (tOp r ta tb):=by
 intro pins s σ H Q I h
 exact wpAny_Compare1 (binT ha hb I h λ v u s2 x y H2 I2 rx ry q=>ho pins s2 σ H2 x y v u Q I2 rx ry q) hm
def tTest (t:TE):TT:=λ σ H Q=>t σ H λ x H'=>∃ k,x=.bl k/\Q k H'
theorem pt_cmpR {op:CmpOp}{r:R2}(ho:OpR X (compareOp op) r) (ha:PE X a ta)(hb:PE X b tb)(hm:behindInMarks op b=false):PT X (.Compare a [op] [b] pos) (tTest (tOp r ta tb)):=by
 intro pins s σ H Q I h
 refine wpAny_isTrue_Compare1 (thn (ha pins s σ H _ I h) λ v s1 ⟨x,H1,I1,r1,q1⟩=>thn (hb pins s1 σ H1 _ I1 q1) λ u s2 ⟨y,H2,I2,r2,q2⟩=>
  thn (ho pins s2 σ H2 x y v u _ I2 r1 r2 q2) λ c s3 ⟨z,H3,I3,r3,k,e,q3⟩=>?_) hm
 subst e
 cases r3
 exact wpAny_truthy_bool ⟨H3,I3,q3⟩
def tChain (r r':R2)(ta tb tc:TE):TE:=λ σ H Q=>ta σ H λ x H1=>tb σ H1 λ y H2=>r x y H2 λ z H3=>∃ k,z=.bl k/\
 (if k=true then tc σ H3 λ w' H4=>r' y w' H4 Q else Q (.bl false) H3)
theorem pe_chain {op op':CmpOp}{r r':R2}(ho:OpR X (compareOp op) r) (ho':OpR X (compareOp op') r') (ha:PE X a ta)(hb:PE X b tb)(hc:PE X c tc)
  (hm:lastMarks [op,op'] [b,c]=false:=by with_unfolding_all rfl):PE X (.Compare a [op,op'] [b,c] pos) (tChain r r' ta tb tc):=by
 intro pins s σ H Q I h
 refine Compare_chain (thn (ha pins s σ H _ I h) λ v s1 ⟨x,H1,I1,r1,q1⟩=>chain_link (thn (hb pins s1 σ H1 _ I1 q1) λ u s2 ⟨y,H2,I2,r2,q2⟩=>
  thn (ho pins s2 σ H2 x y v u _ I2 r1 r2 q2) λ d s3 ⟨z,H3,I3,r3,k,e,q3⟩=>?_)) hm
 subst e
 cases r3
 refine wpAny_truthy_bool ?_
 cases k with
 | false=>exact ite_ff ⟨.bl false,H3,I3,rfl,q3⟩
 | true=>exact ite_tt (chain_last (thn (hc pins s3 σ H3 _ I3 q3) λ w' s4 ⟨z',H4,I4,r4,q4⟩=>ho' pins s4 σ H4 y z' u w' Q I4 r2 r4 q4))
theorem pt_chain {op op':CmpOp}{r r':R2}(ho:OpR X (compareOp op) r) (ho':OpR X (compareOp op') r') (ha:PE X a ta)(hb:PE X b tb)(hc:PE X c tc)
  (hm:lastMarks [op,op'] [b,c]=false:=by with_unfolding_all rfl):PT X (.Compare a [op,op'] [b,c] pos) (tTest (tChain r r' ta tb tc)):=by
 intro pins s σ H Q I h
 refine isTrue_chain (thn (ha pins s σ H _ I h) λ v s1 ⟨x,H1,I1,r1,q1⟩=>test_link (thn (hb pins s1 σ H1 _ I1 q1) λ u s2 ⟨y,H2,I2,r2,q2⟩=>
  thn (ho pins s2 σ H2 x y v u _ I2 r1 r2 q2) λ d s3 ⟨z,H3,I3,r3,k,e,q3⟩=>?_)) hm
 subst e
 cases r3
 refine wpAny_truthy_bool ?_
 cases k with
 | false=>
  obtain⟨k',e',q'⟩:=q3
  cases e'
  exact ite_ff ⟨H3,I3,q'⟩
 | true=>
  refine ite_tt (test_last (thn (hc pins s3 σ H3 _ I3 q3) λ w' s4 ⟨z',H4,I4,r4,q4⟩=>thn (ho' pins s4 σ H4 y z' u w' _ I4 r2 r4 q4) λ d' s5 ⟨z2,H5,I5,r5,k2,e2,q5⟩=>?_))
  subst e2
  cases r5
  exact wpAny_truthy_bool ⟨H5,I5,q5⟩
def TruV (K:PySem.W.Frag)(x:V)(H:Hp)(k:Bool):Prop:=
 match x with
 | .non=>k=false
 | .bl b=>k=b
 | .int i=>k=(i != 0)
 | .str y=>y.length<=sizeLine/\k=((y.length:Int) != 0)
 | .byt y=>y.size<=sizeLine/\k=((y.size:Int) != 0)
 | .ref p=>(∃ xs,SqL K H p xs/\k=!xs.isEmpty)∨(∃ xs,SqT K H p xs/\k=!xs.isEmpty)∨∃ kvs,H p=some (.dK kvs)/\k=!kvs.isEmpty
 | _=>False
theorem isEmpty_kv {κ:Type}{kvs:List (κ × V)}{vs:List (κ × Value)}(r:KV kvs vs):(!vs.isEmpty)=!kvs.isEmpty:=by
 cases r<;>rfl
theorem isEmpty_of {xs:List V}{its:List Value}(r:Vals xs its):(!its.toArray.isEmpty)=!xs.isEmpty:=by
 cases r<;>simp
theorem line63:(sizeLine:Nat) < 2 ^ 63:=by rw[sizeLine_eq];decide
theorem tru_ok:TruR X (λ x H Q=>∃ k,TruV X.K x H k/\Q k H):=by
 intro pins s σ H x v Q I rx h
 obtain⟨k,e,q⟩:=h
 have hl:=line63
 have hs:sizeLine=16777216:=sizeLine_eq
 cases x with
 | non=>
  cases rx
  have e':k=false:=e
  subst e'
  exact truthy_none ⟨H,I,q⟩
 | bl b=>
  cases rx
  have e':k=b:=e
  subst e'
  exact wpAny_truthy_bool ⟨H,I,q⟩
 | int i=>
  obtain⟨t,rfl⟩:=rx
  have e':k=(i != 0):=e
  subst e'
  exact PySem.P.truthy_int ⟨H,I,q⟩
 | str y=>
  obtain⟨t,rfl⟩:=rx
  obtain⟨hy,e'⟩:y.length<=sizeLine/\k=((y.length:Int) != 0):=e
  subst e'
  exact PySem.P.truthy_str (by omega) ⟨H,I.tok _,q⟩
 | byt y=>
  obtain⟨t,rfl⟩:=rx
  obtain⟨hy,e'⟩:y.size<=sizeLine/\k=((y.size:Int) != 0):=e
  subst e'
  exact PySem.W.truthy_bytes (by omega) ⟨H,I.tok _,q⟩
 | ref p=>
  cases rx
  have e':(∃ xs,SqL X.K H p xs/\k=!xs.isEmpty)∨(∃ xs,SqT X.K H p xs/\k=!xs.isEmpty)∨∃ kvs,H p=some (.dK kvs)/\k=!kvs.isEmpty:=e
  rcases e' with⟨xs,hx,e'⟩|⟨xs,hx,e'⟩|⟨kvs,hx,e'⟩
  ·subst e'
   obtain⟨its,r,pl,hz⟩:=I.list hx
   have hlen:=r.length
   exact wpAny_truthy_list pl.isList (by simp only[List.size_toArray];omega) ⟨H,I.tok _,by rw[isEmpty_of r];exact q⟩
  ·subst e'
   obtain⟨its,r,pl,hz⟩:=I.tuple hx
   have hlen:=r.length
   exact truthy_tuple pl (by simp only[List.size_toArray];omega) ⟨H,I.tok _,by rw[isEmpty_of r];exact q⟩
  ·subst e'
   obtain⟨hz,hS,vs,r,m⟩:kvs.length<=sizeLine/\(p == sysModules)=false/\∃ vs,KV kvs vs/\s.heap.DictOf (mixKind X.prog X.w) p vs:=I.hok p _ hx
   have hlen:kvs.length=vs.length:=Paired.length r
   exact wpAny_truthy_dict hS m (by omega) ⟨H,I.tok _,by rw[isEmpty_kv r];exact q⟩
 | _=>exact(show False from e).elim
theorem pt_truth (ha:PE X a ta)(he:∀ whole,isTrue a X.env whole=(do let v <-whole;standAt a.pos;holding [v] (truthy v))) :
  PT X a (λ σ H Q=>ta σ H λ x H'=>∃ k,TruV X.K x H' k/\Q k H'):=by
 intro pins s σ H Q I h
 exact isTrue_plain (thn (ha pins s σ H _ I h) λ v s1 ⟨x,H1,I1,r1,q1⟩=>tru_ok pins s1 σ H1 x v Q I1 r1 q1) (he _)
theorem op_add_str:OpR X (binaryOp .Add) (λ x y H Q=>∃ i j,x=.str i/\y=.str j/\i.length+j.length<=sizeLine/\Q (.str (i++j)) H):=by
 intro pins s σ H x y v u Q I rx ry h
 obtain⟨i,j,rfl,rfl,hz,q⟩:=h
 obtain⟨t,rfl⟩:=rx
 obtain⟨t',rfl⟩:=ry
 exact add_str (λ t' tk=>⟨.str (i++j),H,I.tok _,⟨_,rfl⟩,q⟩) hz
theorem vals1 {x:V}{us:List Value}(r:Vals [x] us):∃ u,us=[u]/\RelV x u:=by
 cases r with
 | cons r1 r2=>cases r2;exact⟨_,rfl,r1⟩
theorem vals2 {x y:V}{us:List Value}(r:Vals [x,y] us):∃ u w',us=[u,w']/\RelV x u/\RelV y w':=by
 cases r with
 | cons r1 r2=>
  cases r2 with
  | cons r3 r4=>cases r4;exact⟨_,_,rfl,r1,r3⟩
theorem call_abs:CallR X (.builtin "abs") (λ xs H Q=>∃ i,xs=[.int i]/\Q (.int (if i < 0 then -i else i)) H):=by
 intro pins s σ H xs us Q I r h
 obtain⟨i,rfl,q⟩:=h
 obtain⟨u,rfl,t,rfl⟩:=vals1 r
 exact call_abs_int λ u tk=>⟨.int (if i < 0 then -i else i),H,I.tok _,⟨_,rfl⟩,q⟩
theorem call_max2 (hc:X.calm=true):CallR X (.builtin "max") (λ xs H Q=>∃ i j,xs=[.int i,.int j]/\Q (.int (if j > i then j else i)) H):=by
 intro pins s σ H xs us Q I r h
 obtain⟨i,j,rfl,q⟩:=h
 obtain⟨u,w',rfl,⟨t,rfl⟩,⟨t',rfl⟩⟩:=vals2 r
 refine max_two_ints (I.ok.hd hc) λ h' tk k=>⟨_,H,I.kept k,?_,q⟩
 by_cases hj:j > i
 ·rw[if_pos hj,if_pos hj];exact⟨_,rfl⟩
 ·rw[if_neg hj,if_neg hj];exact⟨_,rfl⟩
theorem call_int1:CallR X (.type "int") (λ xs H Q=>(∃ i,xs=[.int i]/\Q (.int i) H)∨∃ k,xs=[.bl k]/\Q (.int (if k then 1 else 0)) H):=by
 intro pins s σ H xs us Q I r h
 rcases h with⟨i,rfl,q⟩|⟨k,rfl,q⟩
 ·obtain⟨u,rfl,t,rfl⟩:=vals1 r
  exact call_int_int ⟨.int i,H,I,⟨_,rfl⟩,q⟩
 ·obtain⟨u,rfl,r1⟩:=vals1 r
  cases r1
  exact call_int_bool ⟨.int (if k then 1 else 0),H,I.tok _,⟨_,rfl⟩,q⟩
end
end L2
namespace L2
open PySem PySem.Spec PyProof.Rows
structure ObjM (h:Heap)(x dx C:Addr)(mA:Str->Option Value):Prop where
 obj:h.get? x=some (PySem.W.instObj C dx)
 ns:h.Ns1 dx mA
 ne:dx≠x
theorem lookIn_ns {h:Heap}{dx:Addr}{mA:Str->Option Value}(n:h.Ns1 dx mA):∃ od,h.get? dx=some od/\∀ name,PySem.W.lookIn name od=some (mA name):=by
 obtain⟨o,es,ep,ho,hd,hk,_,hm⟩:=n
 refine⟨o,ho,λ name=>?_⟩
 have e:=hm name
 unfold nsFind findBy at e
 rw[<-Array.find?_toList]at e
 unfold PySem.W.lookIn
 rw[hd]
 dsimp only
 split
 ·rename_i y q
  rw[q]at e
  exact congrArg some e
 ·rename_i q
  rw[q]at e
  have a:es.toList.any (·.refKey)=false:=by
   rw[List.any_eq_false]
   intro y hy
   obtain⟨z,t,hkey⟩:=hk y (Array.mem_toList_iff.mp hy)
   simp[DictEntry.refKey,hkey]
  have a':¬ es.toList.any (·.refKey)=true:=by rw[a];exact Bool.false_ne_true
  rw[if_neg a']
  exact congrArg some e
theorem ObjM.look {h:Heap}{x dx C:Addr}{mA:Str->Option Value}(I:ObjM h x dx C mA):∃ od,PySem.W.InstAt h x (PySem.W.instObj C dx) C (some od)/\∀ name,PySem.W.lookIn name od=some (mA name):=
 let ⟨od,ho,hl⟩:=lookIn_ns I.ns
 ⟨od,⟨I.obj,rfl,rfl,ho⟩,hl⟩
section
variable {prog:Program}{w:World}{A:Around}{E:Value->Shared->Prop}{s:Shared}{K:PySem.W.Frag}{x dx C f:Addr}{mA:Str->Option Value}{name:Str}{v:Value}
end
theorem RelO.some_of {v:V}{o:Option Value}(r:RelO (some v) o):∃ u,o=some u/\RelV v u:=by
 cases o with
 | none=>exact(show False from r).elim
 | some u=>exact⟨u,rfl,r⟩
section
variable {P:Program}{w:World}{H H':Hp}{h h':Heap}{a C dx:Addr}{fs fs':List (Str × V)}
theorem ins_get (hok:HOk P w H h)(e:H a=some (.ins C dx fs)):∃ mA,ObjM h a dx C mA/\(∀ f,RelO (fs.lookup f) (mA f))/\PySem.Within mA (fs.map (·.1))/\fs.length<=1000/\H dx=some (.own a):=by
 obtain⟨d,z,ne,ob,mA,n,r,q⟩:=(show ObjOk P w H h a (.ins C dx fs) from hok a _ e)
 exact⟨mA,⟨ob,n,ne⟩,r,q,z,d⟩
end
structure Cls (K:PySem.W.Frag)(C:Addr):Prop where
 pg:PySem.W.plainGet K C Str.empty=true
 hd:PySem.W.hasDictIn K C=true
 po:PySem.W.plainOver K C=true
 sa:PySem.W.findIn K (.ref C) "__setattr__"=some (some (.builtin "object.__setattr__"))
theorem Cls.get {K:PySem.W.Frag}{C:Addr}(c:Cls K C)(f:Str):PySem.W.plainGet K C f=true:=c.pg
section
variable {X:Cx}{pins:List (Addr × Obj)}{σ:St}{H:Hp}{s:Shared}{a C dx:Addr}{fs:List (Str × V)}{f:Str}{v:V}{A:Around}{E:Value->Shared->Prop}
end
section
variable {X:Cx}{o e value:Expr}{f:Str}{pos pos' tpos:Pos}{ta tv:TE}
end
section
variable {X:Cx}{pins:List (Addr × Obj)}{σ:St}{H:Hp}{s:Shared}{A:Around}{E:Value->Shared->Prop}{Q:Value->Shared->Prop}{c:Value}{b:Bool}
inductive TyOf (K:PySem.W.Frag) (H:Hp):V->Value->Prop where
 | non:TyOf K H .non (.type "NoneType")
 | bl (x:Bool):TyOf K H (.bl x) (.type "bool")
 | int (i:Int):TyOf K H (.int i) (.type "int")
 | str (x:Str):TyOf K H (.str x) (.type "str")
 | flt (x:UInt64):TyOf K H (.flt x) (.type "float")
 | lst {a:Addr}{xs:List V}(e:H a=some (.lst xs)):TyOf K H (.ref a) (.type "list")
 | frz {a:Addr}{o:Obj}{xs:List V}(e:H a=some (.frz o (.lst xs))):TyOf K H (.ref a) (.type "list")
 | tup {a:Addr}{xs:List V}(e:H a=some (.tup xs)):TyOf K H (.ref a) (.type "tuple")
 | dK {a:Addr}{kvs:List (Key × V)}(e:H a=some (.dK kvs)):TyOf K H (.ref a) (.type "dict")
 | dT {a:Addr}{kvs:List (List Key × V)}(e:H a=some (.dT kvs)):TyOf K H (.ref a) (.type "dict")
 | ins {a C dx:Addr}{fs:List (Str × V)}(e:H a=some (.ins C dx fs)) (cl:Cls K C) (ha:PySem.W.findIn K (.ref C) "__class__"=some (some (.builtin "object.__class__")))
   (hn:PySem.W.specialIn K (.builtin "object.__class__") "__get__"=some (some (.builtin "getset_descriptor.__get__"))) (htk:PySem.W.takesIn K (.builtin "object.__class__")=some true)
   (hm:PySem.W.mroIn K C (.type "object")=some true):TyOf K H (.ref a) (.ref C)
theorem isinst_ok {x:V}{u t:Value}(I:Inv X pins σ H s)(rx:RelV x u)(ty:TyOf X.K H x t)(e:PySem.W.kitOne X.K t c=some b)(h:∀ tk,Q (.bool b) { s with toks:=tk }) :
  wpAny (model X.prog X.w) A (call (.builtin "isinstance") [u,c]) Q E s:=by
 cases ty with
 | non=>cases (show u=Value.none from rx);exact PySem.W.kia_one PySem.W.kitx_none I.kIn True.intro e (λ z=>nomatch z) h
 | bl y=>cases (show u=Value.bool y from rx);exact PySem.W.kia_one PySem.W.kitx_bool I.kIn True.intro e (λ z=>nomatch z) h
 | int i=>obtain⟨t,q⟩:=(show ∃ t,u=Value.int i t from rx);cases q;exact PySem.W.kia_one PySem.W.kitx_int I.kIn True.intro e (λ z=>nomatch z) h
 | str y=>obtain⟨t,q⟩:=(show ∃ t,u=Value.str y t from rx);cases q;exact PySem.W.kia_one PySem.W.kitx_str I.kIn True.intro e (λ z=>nomatch z) h
 | flt y=>obtain⟨t,q⟩:=(show ∃ t,u=Value.float y t from rx);cases q;exact PySem.W.kia_one PySem.W.kitx_float I.kIn True.intro e (λ z=>nomatch z) h
 | @lst a xs ea=>
  cases (show u=Value.ref a from rx)
  obtain⟨_,_,n,_,h1⟩:=(show ObjOk X.prog X.w H s.heap a (.lst xs) from I.hok a _ ea)
  exact PySem.W.kia_one PySem.W.kitx_list I.kIn ⟨_,h1,rfl⟩ e (λ z=>nomatch z) h
 | @frz a ob xs ea=>
  cases (show u=Value.ref a from rx)
  obtain⟨_,_,_,n,_,h1⟩:=(show ObjOk X.prog X.w H s.heap a (.frz ob (.lst xs)) from I.hok a _ ea)
  exact PySem.W.kia_one PySem.W.kitx_list I.kIn ⟨_,h1,rfl⟩ e (λ z=>nomatch z) h
 | @tup a xs ea=>
  cases (show u=Value.ref a from rx)
  obtain⟨_,_,_,p⟩:=(show ObjOk X.prog X.w H s.heap a (.tup xs) from I.hok a _ ea)
  obtain⟨o,h1,h2,_⟩:=p
  exact PySem.W.kia_one PySem.W.kitx_tuple I.kIn ⟨o,h1,h2⟩ e (λ z=>nomatch z) h
 | @dK a kvs ea=>
  cases (show u=Value.ref a from rx)
  obtain⟨_,_,vs,_,p⟩:=(show ObjOk X.prog X.w H s.heap a (.dK kvs) from I.hok a _ ea)
  obtain⟨o,es,ep,h1,h2,_⟩:=p
  exact PySem.W.kia_one PySem.W.kitx_dict I.kIn ⟨o,h1,h2.1⟩ e (λ z=>nomatch z) h
 | @dT a kvs ea=>
  cases (show u=Value.ref a from rx)
  obtain⟨_,_,xs,_,o,es,ep,h1,h2,_⟩:=(show ObjOk X.prog X.w H s.heap a (.dT kvs) from I.hok a _ ea)
  exact PySem.W.kia_one PySem.W.kitx_dict I.kIn ⟨o,h1,h2.1⟩ e (λ z=>nomatch z) h
 | @ins a C dx fs ea cl ha hn htk hm=>
  cases (show u=Value.ref a from rx)
  obtain⟨mA,O,_⟩:=ins_get I.hok ea
  obtain⟨od,J,_⟩:=O.look
  exact PySem.W.kia_one (PySem.W.kitx_own (cl.get _) cl.hd ha hn htk hm) I.kIn J e (λ z=>nomatch z) h
end
end L2
namespace L2
open PySem PySem.Spec PyProof.Rows
structure Room (k:Nat)(A:Around):Prop where
 hd:A.handled=none
 gd:A.guards=some []
 dp:A.depth+3 * k+5 < recursionLimit
 un:A.units+16 * k+200 < cLine
theorem Room.mono {j k:Nat}{A:Around}(r:Room k A)(h:j<=k):Room j A:=⟨r.hd,r.gd,by have:=r.dp;omega,by have:=r.un;omega⟩
theorem Room.deeper {k:Nat}{A:Around}(r:Room (k+1) A) (env:Env):Room k (A.deeper env):=
 ⟨r.hd,r.gd,by have:=r.dp;show A.depth+1+3 * k+5 < _;omega,by have:=r.un;show A.units+3+16 * k+200 < _;omega⟩
theorem Room.depth {k:Nat}{A:Around}(r:Room k A):A.depth < recursionLimit:=by have:=r.dp;omega
theorem Room.units {k:Nat}{A:Around}(r:Room k A):A.units+64 < cLine:=by have:=r.un;omega
def tNil:TA:=λ _ H Q=>Q [] H
def tCons (ta:TE)(tr:TA):TA:=λ σ H Q=>ta σ H λ x H1=>tr σ H1 λ xs H2=>Q (x :: xs) H2
section
variable {X:Cx}{e:Expr}{es:List Expr}{te:TE}{t:TA}{pos:Pos}
theorem pa_nil:PA X [] tNil:=λ _ _ _ _ H Q I h=>Calls.spliced_nil ⟨[],H,I,.nil,h⟩
theorem pa_cons (ha:PE X e te)(hr:PA X es t)(hs:starEach (e :: es) X.env=(false,eval e X.env) :: starEach es X.env:=by rfl):PA X (e :: es) (tCons te t):=by
 intro pos pins s σ H Q I h
 rw[hs]
 show wpAny _ _ (spliced ((false,eval e X.env) :: backTo pos (starEach es X.env))) _ _ s
 refine Calls.spliced_cons (thn (ha pins s σ H _ I h) λ u s1 ⟨x,H1,I1,r1,q1⟩=>?_)
 exact thn (hr pos pins s1 σ H1 _ I1 q1) λ us s2 ⟨xs,H2,I2,r2,q2⟩=>⟨x :: xs,H2,I2,.cons r1 r2,q2⟩
def tTup (t:TA):TE:=λ σ H Q=>t σ H λ xs H1=>xs.length<=sizeLine/\∀ p,H1 p=none->Q (.ref p) (upd H1 p (.tup xs))
def tLst (t:TA):TE:=λ σ H Q=>t σ H λ xs H1=>xs.length<=sizeLine/\∀ p,H1 p=none->Q (.ref p) (upd H1 p (.lst xs))
theorem pe_tup {x1} (h:PA X es t):PE X (.Tuple es x1 pos) (tTup t):=by
 intro pins s σ H Q I hq
 refine wpAny_Tuple_spliced (thn (h pos pins s σ H _ I hq) λ us s1 ⟨xs,H1,I1,r,z,q⟩=>⟨by rw[<-r.length];exact z,?_⟩)
 have hf:H1 s1.heap.objs.size=none:=I1.hok.fresh (Nat.le_refl _)
 refine⟨.ref s1.heap.objs.size,upd H1 s1.heap.objs.size (.tup xs),I1.laid (t':=s1.toks) (λ b u e=>Heap.get?_push_of_some _ e) (Nat.le_refl _) ?_,rfl,q _ hf⟩
 exact⟨z,us,r,⟨_,Heap.get?_push_size _ rfl,rfl,_,rfl⟩⟩
theorem pe_lst (h:PA X es t):PE X (.List es pos) (tLst t):=by
 intro pins s σ H Q I hq
 refine wpAny_List_spliced (thn (h pos pins s σ H _ I hq) λ us s1 ⟨xs,H1,I1,r,z,q⟩=>⟨by rw[<-r.length];exact z,?_⟩)
 have hf:H1 s1.heap.objs.size=none:=I1.hok.fresh (Nat.le_refl _)
 refine⟨.ref s1.heap.objs.size,upd H1 s1.heap.objs.size (.lst xs),I1.laid (t':=s1.toks) (λ b u e=>Heap.get?_push_of_some _ e) (Nat.le_refl _) ?_,rfl,q _ hf⟩
 exact⟨z,us,0,r,Heap.get?_push_size _ rfl⟩
end
abbrev Sp:=List V->Hp->VK->XK->Prop
abbrev CXT:=List Env->Hp->Shared->XK->Value->Shared->Prop
structure Env0 (P:Program)(w:World)(K:PySem.W.Frag)(mg:Str->Option Value)(base:Heap)(A:Around)(outer:List Env)(s:Shared)(H:Hp):Prop where
 frames:A.frames=some outer
 mod:Mod K mg base
 bs:∀ b o,base.get? b=some o->s.heap.get? b=some o/\H b=none
 bsz:base.objs.size<=s.heap.objs.size
 funs:s.heap.FunFrames base outer
 frf:∀ b∈frs outer,H b=none
 hok:HOk P w H s.heap
 bare:AllBare s.gens
def CE (outer:List Env)(P:Program)(w:World)(H:Hp)(s:Shared)(Q:VK)(u:Value)(s':Shared):Prop:=
 ∃ v H',s'.os=s.os/\AllBare s'.gens/\Un (frs outer) [] H H' s.heap s'.heap/\HOk P w H' s'.heap/\RelV v u/\Q v H'
def CR (CX:CXT)(outer:List Env)(P:Program)(w:World)(H:Hp)(s:Shared)(Q:VK)(E:XK)(r:Result)(s':Shared):Prop:=
 match r with
 | .ok (.ret u)=>CE outer P w H s Q u s'
 | .ok _=>False
 | .error e=>CX outer H s E e s'
structure FnOk (P:Program)(w:World)(K:PySem.W.Frag)(mg:Str->Option Value)(base:Heap)(CX:CXT)(k:Nat)(f:Addr)(fd:FuncData)(ps:List Str)(sp:Sp):Prop where
 len:∀ vs H Q E,sp vs H Q E->vs.length=ps.length
 run:∀ (A:Around) (outer:List Env) (s:Shared) (H:Hp) (args:Args) (us:List Value) (vs:List V) (Q:VK) (E:XK),Room k A->Env0 P w K mg base A outer s H->BindsTo s fd args (ps.zip us)->Vals vs us->sp vs H Q E->
  codeAny (model P w) A (.call (.ref f) args) (CR CX outer P w H s Q E) s
section
variable {X:Cx}{pins:List (Addr × Obj)}{σ:St}{H:Hp}{s s':Shared}
theorem Inv.env0 (I:Inv X pins σ H s):Env0 X.prog X.w X.K X.mg X.base X.A X.stack s H:=
 ⟨I.ok.frames,I.ok.mod,I.bs,Nat.le_trans I.ok.bsz I.sz,I.stack,I.stkFree,I.hok,I.bare⟩
theorem Inv.after {Q:VK}{u:Value}(I:Inv X pins σ H s)(h:CE X.stack X.prog X.w H s Q u s'):EP X pins σ Q u s':=by
 obtain⟨v,H',os,bare,un,hok,r,q⟩:=h
 obtain⟨hh,g,d,t,os'⟩:=s'
 obtain rfl:os'=s.os:=os
 exact⟨v,H',I.call (h':=hh) (g':=g) (d':=d) (t':=t) (ch:=[]) un hok bare (λ b z=>absurd z (by simp)),r,q⟩
end
def tCall (sp:Sp)(dvs:List V)(E:XK)(t:TA):TE:=λ σ H Q=>t σ H λ vs H1=>sp (vs++dvs) H1 Q E
def Binds (K:PySem.W.Frag)(fd:FuncData)(ps:List Str)(ds:List Value):Prop:=
 ∀ (s:Shared) (us:List Value),K.In s.heap->(us++ds).length=ps.length->BindsTo s fd ⟨us,[]⟩ (ps.zip (us++ds))
theorem Binds.all {K:PySem.W.Frag}{fd:FuncData}{ps:List Str}(h:∀ us:List Value,us.length=ps.length->bindArgs fd ⟨us,[]⟩=pure (ps.zip us)):Binds K fd ps []:=λ s us _ hl=>by
 rw[List.append_nil]at hl ⊢
 exact .of_eq (h us hl)
def Passes (CX:CXT)(X:Cx)(E:XK):Prop:=∀ (pins:List (Addr × Obj)) (σ:St) (H:Hp) (s:Shared) (e:Value) (s':Shared),Inv X pins σ H s->CX X.stack H s E e s'->X.xe e s'
section
variable {X:Cx}{CX:CXT}{k:Nat}{f C:Addr}{fd:FuncData}{ps:List Str}{sp:Sp}{dvs:List V}{ds:List Value}{E:XK}{x m:Str}{p pos apos:Pos}{e o:Expr}{es:List Expr}{ta:TE}{t:TA}
theorem run_fn {pins:List (Addr × Obj)}{σ:St}{H:Hp}{s:Shared}{Q:VK}{us:List Value}{vs:List V}(F:FnOk X.prog X.w X.K X.mg X.base CX k f fd ps sp)(hr:Room k X.A)(hb:Binds X.K fd ps ds)(hd:Vals dvs ds)(hx:Passes CX X E)
  (I:Inv X pins σ H s) (r:Vals vs us) (h:sp (vs++dvs) H Q E):wpAny (model X.prog X.w) X.A (call (.ref f) us) (EP X pins σ Q) X.xe s:=by
 have r2:Vals (vs++dvs) (us++ds):=r.append hd
 have hl:(us++ds).length=ps.length:=by rw[<-r2.length];exact F.len _ _ _ _ h
 refine wpAny_call (codeAny_mono (F.run X.A X.stack s H ⟨us,[]⟩ (us++ds) (vs++dvs) Q E hr I.env0 (hb s us I.kIn hl) r2 h) λ r s' hq=>?_)
 cases r with
 | error e=>exact hx pins σ H s e s' I hq
 | ok fl=>
  cases fl with
  | ret u=>exact I.after hq
  | next=>exact False.elim hq
  | brk=>exact False.elim hq
  | cont=>exact False.elim hq
theorem pe_call (F:FnOk X.prog X.w X.K X.mg X.base CX k f fd ps sp)(hr:Room k X.A)(hg:Gl X x)(hm:X.mg x=some (.ref f)) (hk:PySem.W.keepIn X.K (.ref f)=true) (hb:Binds X.K fd ps ds)(hd:Vals dvs ds)(hx:Passes CX X E)
  (ha:PA X (e :: es) t) (hdb:(x == ("__debug__":Str))=false:=by decide) (he:starEach (e :: es) X.env=(false,eval e X.env) :: starEach es X.env:=by rfl) (hpl:(backTo pos (starEach es X.env)).any (·.1)=false:=by rfl) :
  PE X (.Call (.Name x p) (e :: es) [] pos) (tCall sp dvs E t):=by
 intro pins s σ H Q I h
 refine wpAny_Call_Name_kw (ld_glob I hg hm ?_ hdb)
 refine PySem.W.callWith_K (h₀:=X.base) I.ok.mod.kin hk (thn (ha pos pins s σ H _ I h) λ us s1 ⟨vs,H1,I1,r,q⟩=>⟨I1.kIn,?_⟩) he hpl
 exact run_fn F hr hb hd hx I1 r q
end
section
variable {X:Cx}{CX:CXT}{k:Nat}{f C:Addr}{fd:FuncData}{ps ks:List Str}{sp:Sp}{E:XK}{x m:Str}{p pos apos kpos:Pos}{e o:Expr}{es:List Expr}{kws:List Keyword}{te ta:TE}{t tk:TA}{nm:Option Str}
variable {g:List Value->List Value->List Value}{gV:List V->List V->List V}
end
structure FnScope (N P:List Str)(sc:Scope):Prop where
 kind:sc.kind=.function
 co:sc.isCoroutine=false
 gen:sc.isGenerator=false
 nd:N.Nodup
 pre:N.take P.length=P
 par:∀ x∈P,sc.names.lookup x=some .local∨sc.names.lookup x=some .cell
 nofree:∀ y∈sc.names,y.2≠.free
theorem bindL_out {kindOf:Str->Option NameKind}{x:Str}:∀ {binds:List (Str × Value)}{m:Str->Option Value},(∀ v,(x,v)∉binds)->bindL kindOf binds m x=m x
 | [],_,_=>rfl
 | (n,v) :: r,m,h=>by
  unfold bindL
  rw[bindL_out λ w hw=>h w (List.mem_cons_of_mem _ hw)]
  split
  ·have:x≠n:=by rintro rfl;exact h v List.mem_cons_self
   simp[this]
  ·rfl
theorem bindC_out {kindOf:Str->Option NameKind}{x:Str}:∀ {binds:List (Str × Value)}{m:Str->Option Value},(∀ v,(x,v)∉binds)->bindC kindOf binds m x=m x
 | [],_,_=>rfl
 | (n,v) :: r,m,h=>by
  unfold bindC
  rw[bindC_out λ w hw=>h w (List.mem_cons_of_mem _ hw)]
  split
  ·rfl
  ·have:x≠n:=by rintro rfl;exact h v List.mem_cons_self
   simp[this]
theorem bindL_get {kindOf:Str->Option NameKind}{x:Str}{v:Value}:∀ {P:List Str}{vs:List Value}{i:Nat}{m:Str->Option Value},P.Nodup->P[i]? = some x->vs[i]? = some v->kindOf x=some .local->
  bindL kindOf (P.zip vs) m x=some v
 | [],_,_,_,_,h,_,_=>by simp at h
 | _ :: _,[],_,_,_,_,h,_=>by simp at h
 | p :: P,w :: vs,0,m,nd,h1,h2,hk=>by
  simp at h1 h2;subst h1;subst h2
  show bindL kindOf ((p,w) :: P.zip vs) m p=_
  unfold bindL
  rw[bindL_out λ v hv=>(List.nodup_cons.mp nd).1 (List.of_mem_zip hv).1,if_pos hk]
  simp
 | p :: P,w :: vs,i+1,m,nd,h1,h2,hk=>by
  show bindL kindOf ((p,w) :: P.zip vs) m x=_
  unfold bindL
  exact bindL_get (i:=i) (List.nodup_cons.mp nd).2 (by simpa using h1) (by simpa using h2) hk
theorem bindC_get {kindOf:Str->Option NameKind}{x:Str}{v:Value}:∀ {P:List Str}{vs:List Value}{i:Nat}{m:Str->Option Value},P.Nodup->P[i]? = some x->vs[i]? = some v->kindOf x≠some .local->
  bindC kindOf (P.zip vs) m x=some v
 | [],_,_,_,_,h,_,_=>by simp at h
 | _ :: _,[],_,_,_,_,h,_=>by simp at h
 | p :: P,w :: vs,0,m,nd,h1,h2,hk=>by
  simp at h1 h2;subst h1;subst h2
  show bindC kindOf ((p,w) :: P.zip vs) m p=_
  unfold bindC
  rw[bindC_out λ v hv=>(List.nodup_cons.mp nd).1 (List.of_mem_zip hv).1,if_neg hk]
  simp
 | p :: P,w :: vs,i+1,m,nd,h1,h2,hk=>by
  show bindC kindOf ((p,w) :: P.zip vs) m x=_
  unfold bindC
  exact bindC_get (i:=i) (List.nodup_cons.mp nd).2 (by simpa using h1) (by simpa using h2) hk
def start (N:List Str)(vs:List V):St:=vs.map some++List.replicate (N.length - vs.length) none
def cxOf (CX:CXT)(P:Program)(w:World)(K:PySem.W.Frag)(mg:Str->Option Value)(base:Heap)(N:List Str)(qual:Str)(scope:Scope)(f:Addr)(cd:Value)(A:Around)(outer:List Env)(s:Shared)(H:Hp)(E:XK):Cx where
 prog:=P
 w:=w
 K:=K
 mg:=mg
 base:=base
 A:=A.deeper (envOfC qual scope s.heap.objs.size f cd)
 N:=N
 s₀:=s
 H₀:=H
 env:=envOfC qual scope s.heap.objs.size f cd
 outer:=outer
 stack:=envOfC qual scope s.heap.objs.size f cd :: outer
 ex:=[]
 calm:=true
 fn:=λ _=>true
 pn:=[]
 xe:=λ e s'=>wpAny (model P w) (A.deeper (envOfC qual scope s.heap.objs.size f cd)) (leaving (envOfC qual scope s.heap.objs.size f cd) e) (λ _ s''=>CX outer H s E e s'') (λ e' s''=>CX outer H s E e' s'') s'
theorem cell_has {sc:Scope}{n:Nat}{x:Str}(h:sc.names.lookup x=some .cell):∃ c,(cellsFrom n sc.names []).lookup x=some c:=by
 have q:=PySem.W.cellsFrom_some sc.names n [] (.inl h)
 exact Option.isSome_iff_exists.mp q
theorem inv_start {CX:CXT}{P:Program}{w:World}{K:PySem.W.Frag}{mg:Str->Option Value}{base:Heap}{N ps:List Str}{qual:Str}{scope:Scope}{f:Addr}{cd:Value}{A:Around}{outer:List Env}{s s1:Shared}{H:Hp}{E:XK}{us:List Value}{vs:List V}
  (S:FnScope N ps scope) (hd:A.handled=none) (e0:Env0 P w K mg base A outer s H) (hl:vs.length=ps.length) (r:Vals vs us)
  (x:InCallC s s.heap.objs.size (bindL (envOfC qual scope s.heap.objs.size f cd).kindOf (ps.zip us) λ _=>none) (cellsFrom (s.heap.objs.size+1) scope.names []) (bindC (envOfC qual scope s.heap.objs.size f cd).kindOf (ps.zip us) λ _=>none) s1) :
  Inv (cxOf CX P w K mg base N qual scope f cd A outer s H E) [] (start N vs) H s1:=by
 have hpl:ps.length<=N.length:=by have:=congrArg List.length S.pre;rw[List.length_take]at this;omega
 obtain⟨h1,tk,rfl,hk⟩:=x.done
 have noA:∀ b:Addr,b∉(cxOf CX P w K mg base N qual scope f cd A outer s H E).ex:=λ b z=>absurd (show b∈([]:List Addr) from z) (by simp)
 refine⟨⟨e0.mod,S.kind,rfl,rfl,Nat.le_refl _,λ y z c h1 h2=>?_,λ y hy=>?_,λ y c _ h=>?_,λ _=>hd,Around.frames_deeper e0.frames,.inr ⟨rfl,rfl⟩,λ b z=>absurd z (noA b),e0.bs,e0.bsz,λ b _ _=>noA b,λ b z=>absurd z (noA b),e0.funs,e0.frf⟩,
  rfl,e0.bare,Un.kept hk,⟨_,x.toInCall.ns,λ i y v h1 h2 h3=>?_⟩,λ y c h=>⟨_,x.cell y c h⟩,e0.hok.fresh (Nat.le_refl _),λ y c h=>?_,λ p hp=>absurd (show p∈([]:List (Addr × Obj)) from hp) (by simp),e0.hok.kept hk,?_⟩
 ·exact name_of_addr x.apart (PySem.mem_of_lookup h1) (PySem.mem_of_lookup h2)
 ·have hy:scope.names.lookup y=some .cell∨scope.names.lookup y=some .free:=hy
  rcases hy with hy|hy
  ·exact cell_has hy
  ·exact absurd rfl (S.nofree _ (PySem.mem_of_lookup hy))
 ·exact Nat.le_of_lt (x.above y c (PySem.mem_of_lookup h))
 ·have hi:i < vs.length:=by
   unfold start at h2
   by_cases hi:i < vs.length
   ·exact hi
   ·rw[List.getElem?_append_right (by simpa using hi)]at h2
    rw[List.getElem?_replicate]at h2
    split at h2<;>cases h2
  have ha:vs[i]? = some v:=by
   unfold start at h2
   rw[List.getElem?_append_left (by simpa using hi),List.getElem?_map]at h2
   cases e:vs[i]? with
   | none=>rw[e]at h2;cases h2
   | some a=>rw[e]at h2;cases h2;rfl
  obtain⟨u,hu,rv⟩:=r.get ha
  have hp:ps[i]? = some y:=by
   rw[<-S.pre,List.getElem?_take_of_lt (by omega)];exact h1
  have ndP:ps.Nodup:=by rw[<-S.pre];exact S.nd.sublist (List.take_sublist _ _)
  refine⟨u,rv,?_⟩
  rcases S.par y (List.mem_of_getElem? hp) with k|k
  ·exact .inl ⟨k,bindL_get ndP hp hu k⟩
  ·obtain⟨c,e⟩:=cell_has (n:=s.heap.objs.size+1) k
   refine .inr ⟨.inl k,c,e,?_⟩
   have q:=x.cell y c e
   rw[bindC_get ndP hp hu (by show scope.names.lookup y≠_;rw[k];decide)]at q
   exact q
 ·exact e0.hok.fresh (Nat.le_of_lt (x.above y c (PySem.mem_of_lookup h)))
 ·unfold start
  show _=N.length
  rw[List.length_append,List.length_map,List.length_replicate]
  omega
theorem fn_of {CX:CXT}{P:Program}{w:World}{K:PySem.W.Frag}{mg:Str->Option Value}{base:Heap}{k:Nat}{f:Addr}{name qual:Str}{params:Arguments}{body:List Stmt}{scope:Scope}{dV kV doc pm cdv ct oc:Value}{an od:Option Addr}
  {osl:Array (Option Value)}{N ps:List Str}{sp:Sp}(lk:K.lookup f=some ⟨oc,od,.func (PySem.W.fnOf name qual params body scope dV kV doc pm an cdv ct),osl⟩) (hcd:PySem.W.codeIn K cdv qual=true) (S:FnScope N ps scope)
  (len:∀ vs H Q E,sp vs H Q E->vs.length=ps.length)
  (hbody:∀ (A:Around) (outer:List Env) (s:Shared) (H:Hp) (vs:List V) (Q:VK) (E:XK),Room k (A.deeper (envOfC qual scope s.heap.objs.size f cdv))->sp vs H Q E->
   ∃ t,PSs (cxOf CX P w K mg base N qual scope f cdv A outer s H E) body t/\t { nx:=λ _ H'=>Q .non H',rt:=Q } (start N vs) H) :
  FnOk P w K mg base CX (k+1) f (PySem.W.fnOf name qual params body scope dV kV doc pm an cdv ct) ps sp:=by
 refine⟨len,λ A outer s H args us vs Q E hr e0 hb r hsp=>?_⟩
 have hl:=len _ _ _ _ hsp
 have KX:K.In s.heap:=e0.mod.kin.keeps λ b o e=>(e0.bs b o e).1
 have lim:s.heap.NoLimit:=e0.mod.nolimit.keeps λ b o e=>(e0.bs b o e).1
 have hkind:∀ y∈ps.zip us,scope.names.lookup y.1=some .local∨(scope.names.lookup y.1=some .cell/\((cellsFrom (s.heap.objs.size+1) scope.names []).lookup y.1).isSome=true):=λ⟨n,v⟩ hy=>by
  rcases S.par n (List.of_mem_zip hy).1 with q|q
  ·exact .inl q
  ·exact .inr ⟨q,PySem.W.cellsFrom_some _ _ _ (.inl q)⟩
 refine codeAny_call_function hr.depth (KX _ _ lk) rfl S.co S.gen rfl (PySem.W.codeRec_of KX hcd) (hb _ _ _ _ ?_)
 refine wpAny_newFunctionEnv_cells S.kind hkind λ env he s1 x=>?_
 subst he
 refine⟨lim.keeps x.toInCall.keep,codeAny_func ?_⟩
 obtain⟨t,ht,hq⟩:=hbody A outer s H vs Q E (hr.deeper _) hsp
 have I:Inv (cxOf CX P w K mg base N qual scope f cdv A outer s H E) [] (start N vs) H s1:=inv_start S hr.hd e0 hl r x
 refine wpAny_mono (ht [] s1 (start N vs) H _ I hq) (λ fl s' hs=>?_) λ e s' hs=>hs
 have fin:∀ {σ':St}{H':Hp}{v:V}{u:Value},Inv (cxOf CX P w K mg base N qual scope f cdv A outer s H E) [] σ' H' s'->RelV v u->Q v H'->CE outer P w H s Q u s':=
  λ {σ' H' v u} J rv q=>⟨v,H',J.os,J.bare,J.base,J.hok,rv,q⟩
 cases fl with
 | ret u=>
  obtain⟨v,σ',H',J,rv,q⟩:=hs
  exact fin J rv q
 | next=>
  obtain⟨σ',H',J,q⟩:=hs
  exact fin (v:=V.non) (u:=Value.none) J rfl q
 | brk=>
  obtain⟨_,_,_,q⟩:=hs
  exact False.elim q
 | cont=>
  obtain⟨_,_,_,q⟩:=hs
  exact False.elim q
end L2
namespace L2
open PySem PySem.Spec PyProof.Rows
section
variable {X:Cx}{x:Str}{p pos:Pos}{e:Expr}{es:List Expr}{t:TA}{id T:String}{r:List V->Hp->VK->Prop}
def tCB (r:List V->Hp->VK->Prop)(t:TA):TE:=λ σ H Q=>t σ H λ vs H1=>r vs H1 Q
theorem pe_callB (hc:CallR X (.builtin id) r) (hg:Gl X x)(hm:X.mg x=none)(hv:bootBuiltins x=some (.builtin id)) (ha:PA X (e :: es) t) (hn:x≠"__name__":=by decide)(hdb:(x == ("__debug__":Str))=false:=by decide)
  (he:starEach (e :: es) X.env=(false,eval e X.env) :: starEach es X.env:=by rfl) (hpl:(backTo pos (starEach es X.env)).any (·.1)=false:=by rfl):PE X (.Call (.Name x p) (e :: es) [] pos) (tCB r t):=by
 intro pins s σ H Q I h
 refine wpAny_Call_Name_kw (ld_blt I hg hm hv ?_ hn hdb)
 exact PyProof.Rows.callWith_builtin1 (thn (ha pos pins s σ H _ I h) λ us s1 ⟨vs,H1,I1,r1,q1⟩=>hc pins s1 σ H1 vs us Q I1 r1 q1) he hpl
theorem pe_callTy (hc:CallR X (.type T) r) (hg:Gl X x)(hm:X.mg x=none)(hv:bootBuiltins x=some (.type T)) (ha:PA X (e :: es) t) (hn:x≠"__name__":=by decide)(hdb:(x == ("__debug__":Str))=false:=by decide)
  (he:starEach (e :: es) X.env=(false,eval e X.env) :: starEach es X.env:=by rfl) (hpl:(backTo pos (starEach es X.env)).any (·.1)=false:=by rfl):PE X (.Call (.Name x p) (e :: es) [] pos) (tCB r t):=by
 intro pins s σ H Q I h
 refine wpAny_Call_Name_kw (ld_blt I hg hm hv ?_ hn hdb)
 exact PyProof.Rows.callWith_type1 (thn (ha pos pins s σ H _ I h) λ us s1 ⟨vs,H1,I1,r1,q1⟩=>hc pins s1 σ H1 vs us Q I1 r1 q1) he hpl
end
end L2
namespace HT
open PySem PyProof.Rows
section
open PySem.SeqAt
open PySem.AutoSeq1 (wpAny_loadPart')
open PySem.MeetsSeq PySem.MeetsSeq2 PySem.MeetsSeq3
end
section
variable {prog:Program}{w:World}{A:Around}{E:Value->Shared->Prop}{s:Shared}
theorem cat_tup {t b:Addr}{vs ws:List Value}{Q:Value->Shared->Prop}(ht:IsTup s.heap t vs.toArray)(hb:IsTup s.heap b ws.toArray)(hv:vs≠[])
  (h1:ws=[]->Q (.ref t) s) (h2:ws≠[]->Q (.ref s.heap.objs.size) { s with heap:=s.heap.push { cls:=.type "tuple",data:=.seq (vs++ws).toArray } })
  (hsz:vs.length+ws.length<=sizeLine):wpAny (model prog w) A (binaryOp .Add (.ref t) (.ref b)) Q E s:=by
 obtain⟨⟨cls,dd,data,sl⟩,ho,hc,n,hd⟩:=id ht
 obtain⟨⟨cls2,dd2,data2,sl2⟩,ho2,hc2,n2,hd2⟩:=id hb
 simp only at hc hd hc2 hd2
 subst hc hd hc2 hd2
 have e:vs.toArray++ws.toArray=(vs++ws).toArray:=by simp
 by_cases hw:ws=[]
 ·exact concat_meets ⟨_,ho,rfl⟩ ⟨_,ho2,rfl⟩ noFill_tuple_add seq_tuple_add PySem.F.slot_tuple_add PySem.F.entry_tuple_add (PySem.F.args_tuple_add_2 _ _)
   (tuple_addW1 t b vs.toArray ws.toArray n n2 dd dd2 sl sl2 (by simpa using hv) (by simp[hw])) ⟨ho,ho2,h1 hw⟩
 ·refine concat_meets ⟨_,ho,rfl⟩ ⟨_,ho2,rfl⟩ noFill_tuple_add seq_tuple_add PySem.F.slot_tuple_add PySem.F.entry_tuple_add (PySem.F.args_tuple_add_2 _ _)
   (tuple_addW2 t b vs.toArray ws.toArray n n2 dd dd2 sl sl2 (by simpa using hv) (by simpa using hw) (by rw[List.size_toArray,List.size_toArray];exact hsz)) ⟨ho,ho2,?_⟩
  rw[e]
  exact h2 hw
def sIx (n d:Nat):Option Int->Nat
 | none=>d
 | some v=>if v < 0 then (v+(n:Int)).toNat else min v.toNat n
theorem sIx_le (n d:Nat)(hd:d<=n)(o:Option Int):sIx n d o<=n:=by
 cases o with
 | none=>exact hd
 | some v=>
  show(if v < 0 then (v+(n:Int)).toNat else min v.toNat n)<=n
  by_cases hv:v < 0
  ·rw[if_pos hv];omega
  ·rw[if_neg hv];exact Nat.min_le_right _ _
theorem clip_eq (v:Int)(n d:Nat):(if v < 0 then max (v+(n:Int)) 0 else min v (n:Int))=((sIx n d (some v):Nat):Int):=by
 show(if v < 0 then max (v+(n:Int)) 0 else min v (n:Int))=(((if v < 0 then (v+(n:Int)).toNat else min v.toNat n):Nat):Int)
 by_cases hv:v < 0
 ·simp only[if_pos hv];omega
 ·simp only[if_neg hv];omega
theorem adjust_gen (lo hi:Option Int)(n:Nat):Builtin.Slice.sliceAdjust lo hi 1 (n:Int)=(((sIx n 0 lo:Nat):Int),((sIx n n hi:Nat):Int)):=by
 have h1:¬ ((1:Int) < 0):=by omega
 unfold Builtin.Slice.sliceAdjust
 simp only[h1,if_false]
 refine Prod.ext ?_ ?_
 ·cases lo with
  | none=>rfl
  | some v=>exact clip_eq v n 0
 ·cases hi with
  | none=>rfl
  | some v=>exact clip_eq v n n
theorem places_gen (i j:Nat):Builtin.Slice.slicePlaces (i:Int) (j:Int) 1=j - i:=by
 unfold Builtin.Slice.slicePlaces
 have h1:(1:Int) > 0:=by omega
 simp only[h1,if_true,Int.ediv_one]
 split<;>omega
theorem slicePart_ {v:Value}{o:Option Int}{Q:Option Int->Shared->Prop}(p:IsPart v o)(h:Q o s):wpAny (model prog w) A (Builtin.Slice.slicePartIndex v) Q E s:=by
 cases p with
 | none=>exact slicePart_none h
 | int i t=>exact slicePart_int h
theorem sliceApplied_gen {sl:Addr}{vl vu:Value}{lo hi:Option Int}{n:Nat}{Q:Int × Int × Nat->Shared->Prop}(hs:s.heap.IsSliceOf sl vl vu .none)(pl:IsPart vl lo)(pu:IsPart vu hi)
  (h:Q (((sIx n 0 lo:Nat):Int),1,sIx n n hi - sIx n 0 lo) s):wpAny (model prog w) A (Builtin.Slice.sliceApplied (.ref sl) (pure (n:Int))) Q E s:=by
 obtain⟨os,hos,hcs,hds⟩:=id hs
 unfold Builtin.Slice.sliceApplied Builtin.Slice.sliceFields
 refine wpAny_bind (wpAny_bind (wpAny_field hos hds (x:=vl) rfl (wpAny_bind (wpAny_field hos hds (x:=vu) rfl (wpAny_bind (wpAny_field hos hds (x:=.none) rfl (wpAny_pure ?_)))))))
 refine wpAny_bind (slicePart_none ?_)
 show wpAny _ _ (if ((1:Int) == 0)=true then _ else _) _ _ s
 rw[if_neg (by decide)]
 refine wpAny_bind (slicePart_ pl (wpAny_bind (slicePart_ pu (wpAny_bind (wpAny_pure ?_)))))
 show wpAny _ _ (match Builtin.Slice.sliceAdjust lo hi 1 (n:Int) with|(lo,hi)=>pure (lo,(1:Int),Builtin.Slice.slicePlaces lo hi 1)) _ _ s
 rw[adjust_gen lo hi n]
 show wpAny _ _ (pure (((sIx n 0 lo:Nat):Int),(1:Int),Builtin.Slice.slicePlaces ((sIx n 0 lo:Nat):Int) ((sIx n n hi:Nat):Int) 1)) _ _ s
 rw[places_gen]
 exact wpAny_pure h
theorem pick_gen (xs:Array Value)(i k:Nat):((List.range k).filterMap λ(m:Nat)=>xs[((i:Int)+(m:Int) * 1).toNat]?).toArray=((xs.toList.drop i).take k).toArray:=by
 have e:(λ(m:Nat)=>xs[((i:Int)+(m:Int) * 1).toNat]?)=λ m=>xs[i+m]?:=by
  funext m
  have:((i:Int)+(m:Int) * 1).toNat=i+m:=by omega
  rw[this]
 rw[e]
 have:=pick_run xs i k
 rw[List.filterMap_map]at this
 have e2:((λ x=>xs[x]?) ∘ λ x=>i+x)=λ m=>xs[i+m]?:=rfl
 rw[e2]at this
 rw[this]
theorem getItem_tuple_cut {t sl:Addr}{items:Array Value}{vl vu:Value}{lo hi:Option Int}{Q:Value->Shared->Prop}(ht:IsTup s.heap t items)(hs:s.heap.IsSliceOf sl vl vu .none)(pl:IsPart vl lo)(pu:IsPart vu hi)
  (hw:¬ (sIx items.size 0 lo=0/\sIx items.size items.size hi=items.size))
  (h:Q (.ref s.heap.objs.size) { s with heap:=s.heap.push { cls:=.type "tuple",data:=.seq ((items.toList.drop (sIx items.size 0 lo)).take (sIx items.size items.size hi - sIx items.size 0 lo)).toArray } })
  (hsz:items.size<=sizeLine):wpAny (model prog w) A (getItem (.ref t) (.ref sl)) Q E s:=by
 have htake:sizeOk (.seq ((items.toList.drop (sIx items.size 0 lo)).take (sIx items.size items.size hi - sIx items.size 0 lo)).toArray):=by
  show((items.toList.drop (sIx items.size 0 lo)).take (sIx items.size items.size hi - sIx items.size 0 lo)).toArray.size<=sizeLine
  rw[List.size_toArray,List.length_take,List.length_drop,Array.length_toList]
  omega
 have hj:sIx items.size items.size hi<=items.size:=sIx_le _ _ (Nat.le_refl _) hi
 obtain⟨os,hos,hcs,hds⟩:=id hs
 have hTs:s.TypeIs (.ref sl) "slice":=⟨os,hos,hcs⟩
 unfold getItem
 try with_reducible refine wpAny_holding ?_
 first|refine wpAny_bind (wpAny_pure ?_)|skip
 refine wpAny_bind (wpAny_sequenceKey ht.typeIs (by decide) ?_)
 refine wpAny_bind (wpAny_callSpecial?_slot (name:=Str.ofString "__getitem__") ht.typeIs PyProof.Rows.slot_tuple_getitem
  (wpAny_call_entry PyProof.Rows.slot_tuple_getitem ht.typeIs entry_tuple_getitem ?_ (args_tuple_getitem _ _)))
 show wpAny _ _ (Builtin.Tuple.tupleItemsOf (.ref t) >>= _) _ _ s
 refine wpAny_bind (tupleItemsOf_ ht ?_)
 refine wpAny_bind (wpAny_typeOf hTs ?_)
 rw[if_pos (by decide)]
 refine wpAny_bind (sliceApplied_gen hs pl pu ?_)
 have hno:¬ ((((sIx items.size 0 lo:Nat):Int) == 0 && (1:Int) == 1 && (sIx items.size items.size hi - sIx items.size 0 lo) == items.size)=true):=by
  intro q
  rw[Bool.and_eq_true,Bool.and_eq_true]at q
  have q1:((sIx items.size 0 lo:Nat):Int)=0:=eq_of_beq q.1.1
  have q2:sIx items.size items.size hi - sIx items.size 0 lo=items.size:=eq_of_beq q.2
  exact hw ⟨by omega,by omega⟩
 show wpAny _ _ (if (((sIx items.size 0 lo:Nat):Int) == 0 && (1:Int) == 1 && (sIx items.size items.size hi - sIx items.size 0 lo) == items.size)=true then _ else _) _ _ s
 rw[if_neg hno,pick_gen]
 first
  | exact wpAny_bind (m:=Builtin.Tuple.tupleExact _) (wpAny_newObj_type (wpAny_pure ⟨_,rfl,wpAny_pure h⟩) htake)
  | exact wpAny_bind (m:=Builtin.Tuple.tupleExact _) (wpAny_newObj_type (wpAny_bind (wpAny_pure (wpAny_pure ⟨_,rfl,wpAny_pure h⟩))) htake)
  | exact wpAny_bind (wpAny_bind (m:=Builtin.Tuple.tupleExact _) (wpAny_newObj_type (wpAny_pure (wpAny_pure ⟨_,rfl,wpAny_pure h⟩)) htake))
  | exact wpAny_bind (wpAny_bind (m:=Builtin.Tuple.tupleExact _) (wpAny_newObj_type (wpAny_pure ⟨_,rfl,wpAny_pure h⟩) htake))
end
end HT
namespace L2
open PySem PySem.Spec PyProof.Rows
abbrev TO:=St->Hp->(Option Int->Hp->Prop)->Prop
def PO (X:Cx)(e:Option Expr)(t:TO):Prop:=
 ∀ (pins:List (Addr × Obj)) (s:Shared) (σ:St) (H:Hp) (Q:Option Int->Hp->Prop),Inv X pins σ H s->t σ H Q->
  wpAny (model X.prog X.w) X.A (evalPart e X.env) (λ u s'=>∃ o H',Inv X pins σ H' s'/\IsPart u o/\Q o H') X.xe s
def tNoPart:TO:=λ _ H Q=>Q none H
def tPart (t:TE):TO:=λ σ H Q=>t σ H λ x H1=>∃ i,x=.int i/\Q (some i) H1
section
variable {X:Cx}{e:Expr}{te:TE}{lo hi:Option Expr}{tl th:TO}{pos p2:Pos}
theorem po_none:PO X none tNoPart:=by
 intro pins s σ H Q I h
 rw[evalPart_none]
 exact wpAny_pure ⟨none,H,I,.none,h⟩
theorem po_some (h:PE X e te):PO X (some e) (tPart te):=by
 intro pins s σ H Q I hw
 rw[evalPart_some]
 refine thn (h pins s σ H _ I hw) λ u s1 ⟨x,H1,I1,r1,q1⟩=>?_
 obtain⟨i,rfl,q⟩:=q1
 obtain⟨t,rfl⟩:=r1
 exact⟨some i,H1,I1,.int i t,q⟩
def SlR (X:Cx)(r:V->Option Int->Option Int->Hp->VK->Prop):Prop:=
 ∀ (pins:List (Addr × Obj)) (s:Shared) (σ:St) (H:Hp) (x:V) (v vl vu:Value) (lo hi:Option Int) (sl:Addr) (Q:VK),Inv X pins σ H s->RelV x v->s.heap.IsSliceOf sl vl vu .none->IsPart vl lo->IsPart vu hi->r x lo hi H Q->
  ∃ T id,typeLookup (.type T) "__getitem__"=pure (some (.builtin id))/\s.TypeIs v T/\wpAny (model X.prog X.w) X.A (getItem v (.ref sl)) (EP X pins σ Q) X.xe s
def tSl (r:V->Option Int->Option Int->Hp->VK->Prop)(te:TE)(tl th:TO):TE:=λ σ H Q=>te σ H λ x H1=>tl σ H1 λ l H2=>th σ H2 λ u H3=>r x l u H3 Q
theorem pe_slice {r:V->Option Int->Option Int->Hp->VK->Prop}(hr:SlR X r)(he:PE X e te)(hl:PO X lo tl)(hu:PO X hi th):PE X (.Subscript e (.Slice lo hi none p2) pos) (tSl r te tl th):=by
 intro pins s σ H Q I h
 refine Subscript_ (thn (he pins s σ H _ I h) λ v s1 ⟨x,H1,I1,r1,q1⟩=>?_)
 refine wpAny_Slice (thn (hl pins s1 σ H1 _ I1 q1) λ vl s2 ⟨l,H2,I2,pl,q2⟩=>thn (hu pins s2 σ H2 _ I2 q2) λ vu s3 ⟨u,H3,I3,pu,q3⟩=>?_)
 rw[evalPart_none]
 refine wpAny_pure ?_
 have I4:Inv X pins σ H3 { s3 with heap:=s3.heap.push { cls:=.type "slice",data:=.fields #[vl,vu,.none] } }:=I3.kept (t':=s3.toks) λ b ob q=>Heap.get?_push_of_some _ q
 obtain⟨T,id,hT,ht,hg⟩:=hr pins { s3 with heap:=s3.heap.push { cls:=.type "slice",data:=.fields #[vl,vu,.none] } } σ H3 x v vl vu l u s3.heap.objs.size Q I4 r1 (Heap.IsSliceOf.new ..) pl pu q3
 show wpAny (model X.prog X.w) X.A (subscriptTail e (.Slice lo hi none p2) v (.ref s3.heap.objs.size)) (EP X pins σ Q) X.xe { s3 with heap:=s3.heap.push { cls:=.type "slice",data:=.fields #[vl,vu,.none] } }
 exact tail_any (ops:=[.ref s3.heap.objs.size,v]) ht hT hg (by with_unfolding_all rfl)
def cutV (xs:List V)(lo hi:Option Int):List V:=(xs.drop (HT.sIx xs.length 0 lo)).take (HT.sIx xs.length xs.length hi - HT.sIx xs.length 0 lo)
theorem cutV_length (xs:List V)(lo hi:Option Int):(cutV xs lo hi).length<=xs.length:=by
 unfold cutV
 rw[List.length_take,List.length_drop]
 omega
def rSlT (K:PySem.W.Frag):V->Option Int->Option Int->Hp->VK->Prop:=λ x lo hi H Q=>∃ a xs,x=.ref a/\SqT K H a xs/\
 ¬ (HT.sIx xs.length 0 lo=0/\HT.sIx xs.length xs.length hi=xs.length)/\∀ p,H p=none->Q (.ref p) (upd H p (.tup (cutV xs lo hi)))
theorem sl_tup:SlR X (rSlT X.K):=by
 intro pins s σ H x v vl vu lo hi sl Q I rx hs pl pu h
 obtain⟨a,xs,rfl,hx,hw,q⟩:=h
 cases rx
 obtain⟨its,r,ht,hz⟩:=I.tuple hx
 have hlen:its.toArray.size=xs.length:=by rw[List.size_toArray];exact r.length.symm
 refine⟨"tuple",_,PyProof.Rows.slot_tuple_getitem.lookup,ht.typeIs,?_⟩
 refine HT.getItem_tuple_cut ht hs pl pu (by rw[hlen];exact hw) ?_ (by rw[hlen];exact hz)
 rw[hlen]
 refine⟨.ref s.heap.objs.size,_,I.laid (t':=s.toks) (o:=.tup (cutV xs lo hi)) (λ b ob q=>Heap.get?_push_of_some _ q) (Nat.le_refl _) ?_,rfl,q _ (I.hok.fresh (Nat.le_refl _))⟩
 exact⟨Nat.le_trans (cutV_length xs lo hi) hz,_,(r.drop (HT.sIx xs.length 0 lo)).take (HT.sIx xs.length xs.length hi - HT.sIx xs.length 0 lo),IsTup.new _ _⟩
def rCatT (K:PySem.W.Frag):R2:=λ x y H Q=>∃ a b xs ys,x=.ref a/\y=.ref b/\SqT K H a xs/\SqT K H b ys/\xs≠[]/\xs.length+ys.length<=sizeLine/\
 (ys=[]->Q (.ref a) H)/\(ys≠[]->∀ p,H p=none->Q (.ref p) (upd H p (.tup (xs++ys))))
theorem Vals.nil_iff {xs:List V}{us:List Value}(r:Vals xs us):us=[] ↔ xs=[]:=by
 cases r with
 | nil=>simp
 | cons _ _=>simp
theorem op_catT:OpR X (binaryOp .Add) (rCatT X.K):=by
 intro pins s σ H x y v u Q I rx ry h
 obtain⟨a,b,xs,ys,rfl,rfl,ha,hb,hx,hz,q1,q2⟩:=h
 cases rx
 cases ry
 obtain⟨its,r1,p1,_⟩:=I.tuple ha
 obtain⟨its2,r2,p2,_⟩:=I.tuple hb
 refine HT.cat_tup p1 p2 (λ z=>hx (r1.nil_iff.mp z)) (λ z=>⟨.ref a,H,I,rfl,q1 (r2.nil_iff.mp z)⟩) (λ z=>?_) (by rw[<-r1.length,<-r2.length];exact hz)
 refine⟨.ref s.heap.objs.size,_,I.laid (t':=s.toks) (o:=.tup (xs++ys)) (λ b ob q=>Heap.get?_push_of_some _ q) (Nat.le_refl _) ?_,rfl,q2 (λ w=>z (r2.nil_iff.mpr w)) _ (I.hok.fresh (Nat.le_refl _))⟩
 exact⟨by rw[List.length_append];exact hz,_,r1.append r2,IsTup.new _ _⟩
end
end L2
namespace L2
open PySem PySem.Spec PyProof.Rows
def ixN (n:Nat)(i:Int):Option Nat:=if 0<=i then (if i < n then some i.toNat else none) else if -(n:Int)<=i then some (i+n).toNat else none
def atI {α:Type}(xs:List α)(i:Int):Option α:=(ixN xs.length i).bind λ j=>xs[j]?
theorem ixN_seq {n:Nat}{i:Int}{j:Nat}(h:ixN n i=some j):seqIndex? i n=some j/\j < n/\-(n:Int)<=i/\i < n:=by
 unfold ixN at h
 by_cases h0:0<=i
 ·rw[if_pos h0]at h
  by_cases h1:i < n
  ·rw[if_pos h1]at h
   have e:i.toNat=j:=Option.some.inj h
   exact⟨by rw[seqIndex_of h0 h1,e],by omega,by omega,h1⟩
  ·rw[if_neg h1]at h;cases h
 ·rw[if_neg h0]at h
  by_cases h1:-(n:Int)<=i
  ·rw[if_pos h1]at h
   have e:(i+n).toNat=j:=Option.some.inj h
   exact⟨by rw[seqIndex_neg (by omega) h1,e],by omega,h1,by omega⟩
  ·rw[if_neg h1]at h;cases h
theorem atI_get {α:Type}{xs:List α}{i:Int}{v:α}(h:atI xs i=some v):∃ j,seqIndex? i xs.length=some j/\xs[j]? = some v/\j < xs.length/\-(xs.length:Int)<=i/\i < xs.length:=by
 unfold atI at h
 cases e:ixN xs.length i with
 | none=>rw[e]at h;cases h
 | some j=>
  rw[e]at h
  obtain⟨h1,h2,h3,h4⟩:=ixN_seq e
  exact⟨j,h1,h,h2,h3,h4⟩
theorem atI_nat {α:Type}{xs:List α}{j:Nat}{v:α}(h:xs[j]? = some v):atI xs (j:Int)=some v:=by
 have hj:j < xs.length:=(List.getElem?_eq_some_iff.mp h).1
 have e:ixN xs.length (j:Int)=some j:=by
  unfold ixN
  rw[if_pos (by omega),if_pos (by omega)];simp
 unfold atI;rw[e];exact h
def PlainIx (b:Expr):Prop:=∀ o i,subscripted b false o i=operate [o,i] (getItem o i)
def IxR (X:Cx)(r:R2):Prop:=
 ∀ (value slice:Expr) (pins:List (Addr × Obj)) (s:Shared) (σ:St) (H:Hp) (x y:V) (v u:Value) (Q:VK),Inv X pins σ H s->RelV x v->RelV y u->r x y H Q->
  subscripted slice false v u=operate [v,u] (getItem v u)->wpAny (model X.prog X.w) X.A (subscriptTail value slice v u) (EP X pins σ Q) X.xe s
def MtR (X:Cx)(id:String)(r:V->List V->Hp->VK->Prop):Prop:=
 ∀ (pins:List (Addr × Obj)) (s:Shared) (σ:St) (H:Hp) (x:V) (xs:List V) (v:Value) (us:List Value) (Q:VK),Inv X pins σ H s->RelV x v->Vals xs us->r x xs H Q->
  wpAny (model X.prog X.w) X.A (call (.builtin id) (v :: us)) (EP X pins σ Q) X.xe s
section
variable {X:Cx}{a b:Expr}{ta tb:TE}{pos:Pos}
theorem pe_ix {r:R2}(hr:IxR X r)(ha:PE X a ta)(hb:PE X b tb)(hs:PlainIx b):PE X (.Subscript a b pos) (tOp r ta tb):=by
 intro pins s σ H Q I h
 exact Subscript_ (binT ha hb I h λ v u s2 x y H2 I2 rx ry q=>hr a b pins s2 σ H2 x y v u Q I2 rx ry q (hs _ _))
def rIxL (K:PySem.W.Frag):R2:=λ x y H Q=>∃ p xs i v,x=.ref p/\y=.int i/\SqL K H p xs/\atI xs i=some v/\Q v H
def rIxT (K:PySem.W.Frag):R2:=λ x y H Q=>∃ p xs i v,x=.ref p/\y=.int i/\SqT K H p xs/\atI xs i=some v/\Q v H
def rIxS:R2:=λ x y H Q=>∃ z i c,x=.str z/\y=.int i/\z.length<=sizeLine/\atI z.cps.toList i=some c/\Q (.str ⟨#[c]⟩) H
theorem ix_list:IxR X (rIxL X.K):=by
 intro value slice pins s σ H x y v u Q I rx ry h hs
 obtain⟨p,xs,i,z,rfl,rfl,hq,he,q⟩:=h
 cases rx
 obtain⟨t,rfl⟩:=ry
 obtain⟨its,r,pl,hz⟩:=I.list hq
 obtain⟨j,h1,h2,h3,h4,h5⟩:=atI_get he
 obtain⟨w,ew,rw'⟩:=r.get h2
 have hl:=r.length
 have hn:=line63
 have fin:EP X pins σ Q w s:=⟨z,H,I,rw',q⟩
 by_cases h0:0<=i
 ·have hj:i.toNat=j:=by
   rw[seqIndex_of h0 h5]at h1
   exact Option.some.inj h1
  exact item_listR pl.isList h0 (by omega) (by rw[hj];simpa using ew) fin hs
 ·have hj:(i+(its.toArray.size:Int)).toNat=j:=by
   rw[seqIndex_neg (by omega) h4]at h1
   rw[List.size_toArray,<-hl]
   exact Option.some.inj h1
  exact subscriptTail_builtinR (x:=w) pl.isList.typeIs slot_list_getitem.lookup
   (wpAny_getItem_list_neg (Q:=λ r s'=>r=w/\EP X pins σ Q r s') pl.isList (by omega) (by rw[List.size_toArray]<;>omega) (by omega) (by rw[hj];simpa using ew) ⟨rfl,fin⟩) hs
theorem ix_tup:IxR X (rIxT X.K):=by
 intro value slice pins s σ H x y v u Q I rx ry h hs
 obtain⟨p,xs,i,z,rfl,rfl,hq,he,q⟩:=h
 cases rx
 obtain⟨t,rfl⟩:=ry
 obtain⟨its,r,pl,hz⟩:=I.tuple hq
 obtain⟨j,h1,h2,h3,h4,h5⟩:=atI_get he
 obtain⟨w,ew,rw'⟩:=r.get h2
 have hl:=r.length
 have hn:=line63
 have fin:EP X pins σ Q w s:=⟨z,H,I,rw',q⟩
 exact subscriptTail_builtinR (x:=w) pl.typeIs slot_tuple_getitem.lookup
  (getItem_tuple (j:=j) (Q:=λ r s'=>r=w/\EP X pins σ Q r s') pl (by omega) (by omega) (by rw[List.size_toArray,<-hl];exact h1) (by simpa using ew) ⟨rfl,fin⟩) hs
theorem ix_str:IxR X rIxS:=by
 intro value slice pins s σ H x y v u Q I rx ry h hs
 obtain⟨z,i,c,rfl,rfl,hz,he,q⟩:=h
 obtain⟨t,rfl⟩:=rx
 obtain⟨t',rfl⟩:=ry
 obtain⟨j,h1,h2,h3,h4,h5⟩:=atI_get he
 have hl:z.cps.toList.length=z.length:=by simp[Str.length]
 rw[hl]at h1 h4 h5
 have hn:=line63
 exact tail_any (typeIs_str s z t) slot_str_getitem.lookup (getItem_str (c:=c) (by
  have e1:decide (i < -(2 ^ 63:Int))=false:=decide_eq_false (by omega)
  have e2:decide (i ≥ 2 ^ 63)=false:=decide_eq_false (by omega)
  rw[e1,e2,Bool.or_false]) (by rw[h1];simpa using h2) ⟨.str ⟨#[c]⟩,H,I.tok _,⟨_,rfl⟩,q⟩) hs
theorem mapSeq_set (its:List Value)(n j:Nat)(u:Value):Obj.mapSeq (·.setIfInBounds j u) { cls:=.type "list",data:=.seq its.toArray n }={ cls:=.type "list",data:=.seq (its.set j u).toArray n }:=by
 simp[Obj.mapSeq]
theorem Inv.lst {pins:List (Addr × Obj)}{σ:St}{H:Hp}{s:Shared}{p:Addr}{xs:List V}(I:Inv X pins σ H s)(h:H p=some (.lst xs)) :
  ∃ (its:List Value) (n:Nat),Vals xs its/\s.heap.get? p=some { cls:=.type "list",data:=.seq its.toArray n }/\xs.length<=sizeLine:=by
 obtain⟨z,its,n,r,e⟩:=I.hok p _ h
 exact⟨its,n,r,e,z⟩
theorem Inv.lstUpd {pins:List (Addr × Obj)}{σ:St}{H:Hp}{s:Shared}{p:Addr}{xs ys:List V}{its its':List Value}{n n':Nat}{f:Obj->Obj}(I:Inv X pins σ H s)(h:H p=some (.lst xs))
  (ho:s.heap.get? p=some { cls:=.type "list",data:=.seq its.toArray n }) (hf:f { cls:=.type "list",data:=.seq its.toArray n }={ cls:=.type "list",data:=.seq its'.toArray n' }) (r:Vals ys its') (hz:ys.length<=sizeLine) (t:Nat) :
  Inv X pins σ (upd H p (.lst ys)) { s with heap:=s.heap.update p f,toks:=t }:=by
 have e:(s.heap.update p f).get? p=some { cls:=.type "list",data:=.seq its'.toArray n' }:=by
  rw[Heap.get?_update_self f ho (by rw[hf]<;>rfl),hf]
 refine I.write (x:=p) (e:=p) (by rw[h];trivial) (.inl rfl) (λ b u hb q=>(Heap.get?_update_other _ _ (Ne.symm hb)).trans q) ⟨_,e⟩ ?_
 exact⟨hz,its',n',r,e⟩
def rSetL:V->V->V->Hp->(Hp->Prop)->Prop:=λ o i v H Q=>∃ p xs k j,o=.ref p/\i=.int k/\H p=some (.lst xs)/\ixN xs.length k=some j/\Q (upd H p (.lst (xs.set j v)))
theorem set_list:PSet X rSetL:=by
 intro pins s σ H o i v ov iv u Q I ro ri rv h
 obtain⟨p,xs,k,j,rfl,rfl,hp,hj,q⟩:=h
 cases ro
 obtain⟨t,rfl⟩:=ri
 obtain⟨its,n,r,ho,hz⟩:=I.lst hp
 obtain⟨h1,h2,h3,h4⟩:=ixN_seq hj
 have hl:=r.length
 have hn:=line63
 have I':Inv X pins σ (upd H p (.lst (xs.set j v))) { s with heap:=s.heap.update p (Obj.mapSeq (·.setIfInBounds j u)) }:=
  I.lstUpd hp ho (mapSeq_set its n j u) (r.set rv j) (by rw[List.length_set];exact hz) s.toks
 by_cases h0:0<=k
 ·have hk:k.toNat=j:=by
   rw[seqIndex_of h0 h4]at h1
   exact Option.some.inj h1
  exact PySem.W.ki_setAt ho h0 (by omega) (by rw[List.size_toArray,<-hl];exact h4) (by rw[hk];exact⟨_,I',q⟩)
 ·have hk:(k+(its.toArray.size:Int)).toNat=j:=by
   rw[seqIndex_neg (by omega) h3]at h1
   rw[List.size_toArray,<-hl]
   exact Option.some.inj h1
  exact PySem.W.ki_setBack ho (by omega) (by rw[List.size_toArray,<-hl];exact h3) (by omega) (by rw[hk];exact⟨_,I',q⟩)
theorem slice_bounds (lo hi:Option Int)(n:Nat):(sliceBounds lo hi none n).1=((HT.sIx n 0 lo:Nat):Int)/\(sliceBounds lo hi none n).2.1=((HT.sIx n n hi:Nat):Int)/\(sliceBounds lo hi none n).2.2=1:=by
 refine⟨?_,?_,rfl⟩
 ·cases lo with
  | none=>simp[sliceBounds,HT.sIx]
  | some i=>
   simp only[sliceBounds,HT.sIx,Option.getD_none,show(1:Int) > 0 by decide,if_true]
   by_cases h:i < 0
   ·simp only[h,if_true]<;>omega
   ·simp only[h,if_false]<;>omega
 ·cases hi with
  | none=>simp[sliceBounds,HT.sIx]
  | some i=>
   simp only[sliceBounds,HT.sIx,Option.getD_none,show(1:Int) > 0 by decide,if_true]
   by_cases h:i < 0
   ·simp only[h,if_true]<;>omega
   ·simp only[h,if_false]<;>omega
theorem slicePick_cut (its:List Value)(lo hi:Option Int):slicePick its.toArray lo hi none=((its.drop (HT.sIx its.length 0 lo)).take (HT.sIx its.length its.length hi - HT.sIx its.length 0 lo)).toArray:=by
 obtain⟨h1,h2,h3⟩:=slice_bounds lo hi its.toArray.size
 unfold slicePick
 rw[h1,h2,h3]
 simp only[sliceRange_one,pick_run,List.size_toArray]<;>rfl
def rSlL (K:PySem.W.Frag):V->Option Int->Option Int->Hp->VK->Prop:=λ x lo hi H Q=>∃ a xs,x=.ref a/\SqL K H a xs/\∀ p,H p=none->Q (.ref p) (upd H p (.lst (cutV xs lo hi)))
theorem sl_list:SlR X (rSlL X.K):=by
 intro pins s σ H x v vl vu lo hi sl Q I rx hs pl pu h
 obtain⟨a,xs,rfl,hx,q⟩:=h
 cases rx
 obtain⟨its,r,ht,hz⟩:=I.list hx
 have hlen:=r.length
 refine⟨"list",_,slot_list_getitem.lookup,ht.isList.typeIs,?_⟩
 refine wpAny_getItem_list_slice ht.isList hs pl pu .none (by simp) ?_ (by rw[List.size_toArray]<;>omega)
 rw[slicePick_cut,<-hlen]
 refine⟨.ref s.heap.objs.size,_,I.laid (t':=s.toks) (o:=.lst (cutV xs lo hi)) (λ b ob q=>Heap.get?_push_of_some _ q) (Nat.le_refl _) ?_,rfl,q _ (I.hok.fresh (Nat.le_refl _))⟩
 exact⟨Nat.le_trans (cutV_length xs lo hi) hz,_,0,(r.drop (HT.sIx xs.length 0 lo)).take (HT.sIx xs.length xs.length hi - HT.sIx xs.length 0 lo),Heap.get?_push_size _ rfl⟩
def flatV:V->Bool
 | .non=>true
 | .bl _=>true
 | .int _=>true
 | .str _=>true
 | _=>false
def eqV:V->V->Bool
 | .non,.non=>true
 | .bl a,.bl b=>a == b
 | .bl a,.int b=>(if a then 1 else 0) == b
 | .int a,.bl b=>a == (if b then 1 else 0)
 | .int a,.int b=>a == b
 | .str a,.str b=>a == b
 | _,_=>false
theorem eqAt_V {A:Around}{s:Shared}{y x:V}{u v:Value}(ry:RelV y u)(rx:RelV x v)(fy:flatV y=true)(fx:flatV x=true):SeqAt.EqAt A s u v (eqV y x):=by
 cases y with
 | non=>
  cases ry
  cases x with
  | non=>cases rx;exact SeqAt.EqAt.same _
  | bl b=>cases rx;exact SeqAt.EqAt.none_bool b
  | int b=>obtain⟨t,rfl⟩:=rx;exact SeqAt.EqAt.none_int b t
  | str b=>obtain⟨t,rfl⟩:=rx;exact SeqAt.EqAt.none_str b t
  | _=>exact absurd (show false=true from fx) Bool.false_ne_true
 | bl a=>
  cases ry
  cases x with
  | non=>cases rx;exact SeqAt.EqAt.bool_none a
  | bl b=>cases rx;exact SeqAt.EqAt.bool_bool a b
  | int b=>obtain⟨t,rfl⟩:=rx;exact SeqAt.EqAt.bool_int a b t
  | str b=>obtain⟨t,rfl⟩:=rx;exact SeqAt.EqAt.bool_str a b t
  | _=>exact absurd (show false=true from fx) Bool.false_ne_true
 | int a=>
  obtain⟨t',rfl⟩:=ry
  cases x with
  | non=>cases rx;exact SeqAt.EqAt.int_none a t'
  | bl b=>cases rx;exact SeqAt.EqAt.int_bool a t' b
  | int b=>obtain⟨t,rfl⟩:=rx;exact SeqAt.EqAt.int_int a t' b t
  | str b=>obtain⟨t,rfl⟩:=rx;exact SeqAt.EqAt.int_str a t' b t
  | _=>exact absurd (show false=true from fx) Bool.false_ne_true
 | str a=>
  obtain⟨t',rfl⟩:=ry
  cases x with
  | non=>cases rx;exact SeqAt.EqAt.str_none a t'
  | bl b=>cases rx;exact SeqAt.EqAt.str_bool a t' b
  | int b=>obtain⟨t,rfl⟩:=rx;exact SeqAt.EqAt.str_int a t' b t
  | str b=>obtain⟨t,rfl⟩:=rx;exact SeqAt.EqAt.str_str a t' b t
  | _=>exact absurd (show false=true from fx) Bool.false_ne_true
 | _=>exact absurd (show false=true from fy) Bool.false_ne_true
theorem call_len_seq:CallR X (.builtin "len") (λ xs H Q=>∃ p ys,xs=[.ref p]/\(SqL X.K H p ys∨SqT X.K H p ys)/\Q (.int ys.length) H):=by
 intro pins s σ H xs us Q I r h
 obtain⟨p,ys,rfl,hq,q⟩:=h
 obtain⟨u,rfl,rx⟩:=vals1 r
 cases rx
 have hn:=line63
 rcases hq with hq|hq
 ·obtain⟨its,r',pl,hz⟩:=I.list hq
  have hlen:=r'.length
  exact Calls.call_len_list pl.isList (by simp only[List.size_toArray]<;>omega) ⟨.int ys.length,H,I.tok _,⟨s.toks+1,by rw[List.size_toArray,hlen]⟩,q⟩
 ·obtain⟨its,r',pl,hz⟩:=I.tuple hq
  have hlen:=r'.length
  exact len_tuple pl (by simp only[List.size_toArray]<;>omega) ⟨.int ys.length,H,I.tok _,⟨s.toks+1,by rw[List.size_toArray,hlen]⟩,q⟩
theorem call_len_str:CallR X (.builtin "len") (λ xs H Q=>∃ z,xs=[.str z]/\z.length<=sizeLine/\Q (.int z.length) H):=by
 intro pins s σ H xs us Q I r h
 obtain⟨z,rfl,hz,q⟩:=h
 obtain⟨u,rfl,t,rfl⟩:=vals1 r
 have hn:=line63
 exact len_str (by omega) ⟨.int z.length,H,I.tok _,⟨_,rfl⟩,q⟩
theorem call_list_of:CallR X (.type "list") (λ xs H Q=>∃ p ys,xs=[.ref p]/\(SqL X.K H p ys∨SqT X.K H p ys)/\∀ l,H l=none->Q (.ref l) (upd H l (.lst ys))):=by
 intro pins s σ H xs us Q I r h
 obtain⟨p,ys,rfl,hq,q⟩:=h
 obtain⟨u,rfl,rx⟩:=vals1 r
 cases rx
 have fin:∀ (its:List Value),Vals ys its->ys.length<=sizeLine->∀ (h':Heap) (c':Nat),(∀ b o',s.heap.get? b=some o'->h'.get? b=some o')->
   h'.get? s.heap.objs.size=some { cls:=.type "list",dict:=none,data:=.seq its.toArray c',slots:=#[] }->EP X pins σ Q (.ref s.heap.objs.size) { s with heap:=h' }:=λ its r' hz h' c' kp e=>
  ⟨.ref s.heap.objs.size,_,I.laid (t':=s.toks) kp (Nat.le_refl _) (show ObjOk X.prog X.w _ h' _ (.lst ys) from⟨hz,its,c',r',e⟩),rfl,q _ (I.hok.fresh (Nat.le_refl _))⟩
 rcases hq with hq|hq
 ·obtain⟨its,r',pl,hz⟩:=I.list hq
  have hlen:=r'.length
  obtain⟨o,ho,hc,n,hd⟩:=pl.isList
  exact call_list_seq p (.inl rfl) ho hc hd (λ h' c' kp e=>fin its r' hz h' c' kp e) (by simp only[List.size_toArray]<;>omega)
 ·obtain⟨its,r',pl,hz⟩:=I.tuple hq
  have hlen:=r'.length
  obtain⟨o,ho,hc,n,hd⟩:=pl
  exact call_list_seq p (.inr rfl) ho hc hd (λ h' c' kp e=>fin its r' hz h' c' kp e) (by simp only[List.size_toArray]<;>omega)
theorem call_tuple_of:CallR X (.type "tuple") (λ xs H Q=>∃ p ys,xs=[.ref p]/\((SqL X.K H p ys/\∀ l,H l=none->Q (.ref l) (upd H l (.tup ys)))∨(SqT X.K H p ys/\Q (.ref p) H))):=by
 intro pins s σ H xs us Q I r h
 obtain⟨p,ys,rfl,h⟩:=h
 obtain⟨u,rfl,rx⟩:=vals1 r
 cases rx
 rcases h with⟨hq,q⟩|⟨hq,q⟩
 ·obtain⟨its,r',pl,hz⟩:=I.list hq
  have hlen:=r'.length
  refine call_tuple_list pl.isList (λ h' kp=>?_) (by simp only[List.size_toArray]<;>omega)
  have I1:Inv X pins σ H { s with heap:=h' }:=I.kept (t':=s.toks) kp
  have I2:Inv X pins σ (upd H h'.objs.size (.tup ys)) { s with heap:=h'.push { cls:=.type "tuple",data:=.seq its.toArray } }:=
   I1.laid (t':=s.toks) (λ b o e=>Heap.get?_push_of_some _ e) (Nat.le_refl _) (show ObjOk X.prog X.w _ _ _ (.tup ys) from⟨hz,its,r',IsTup.new _ _⟩)
  exact⟨.ref h'.objs.size,_,I2,rfl,q _ (I1.hok.fresh (Nat.le_refl _))⟩
 ·obtain⟨its,r',pl,hz⟩:=I.tuple hq
  exact call_tuple_same pl ⟨.ref p,H,I,rfl,q⟩
def tyV (K:PySem.W.Frag)(T:String)(x:V)(H:Hp):Prop:=match x with
 | .str _=>T="str"
 | .int _=>T="int"
 | .ref p=>(T="list"/\∃ xs,SqL K H p xs)∨(T="tuple"/\∃ o,K.lookup p=some o/\o.cls=.type "tuple"/\o.dict=none)∨
   (T="dict"/\((∃ kvs,H p=some (.dK kvs))∨∃ kvs,H p=some (.dT kvs)))∨(T="set"/\∃ S n,H p=some (.set S n))
 | _=>False
theorem tyV_is {pins:List (Addr × Obj)}{σ:St}{H:Hp}{s:Shared}{T:String}{x:V}{v:Value}(I:Inv X pins σ H s)(r:RelV x v)(ty:tyV X.K T x H) :
  s.TypeIs v T/\∀ a,v=.ref a->∃ ob,s.heap.get? a=some ob/\ob.dict=none:=by
 cases x with
 | str z=>
  obtain⟨t,rfl⟩:=r
  cases (show T="str" from ty)
  exact⟨typeIs_str s z t,λ _ e=>nomatch e⟩
 | int i=>
  obtain⟨t,rfl⟩:=r
  cases (show T="int" from ty)
  exact⟨typeIs_int s i t,λ _ e=>nomatch e⟩
 | ref p=>
  cases r
  rcases ty with⟨rfl,xs,hq⟩|⟨rfl,o,hk,hc,hd⟩|⟨rfl,hk⟩|⟨rfl,S,n,hk⟩
  ·obtain⟨its,_,pl,_⟩:=I.list hq
   refine⟨pl.isList.typeIs,λ a e=>?_⟩
   cases e
   obtain⟨o,n,e,c,hd,_⟩:=pl
   exact⟨o,e,hd⟩
  ·refine⟨⟨o,I.kIn p o hk,hc⟩,λ a e=>?_⟩
   cases e
   exact⟨o,I.kIn _ o hk,hd⟩
  ·have z:∃ o,s.heap.get? p=some o/\o.ExactDict:=by
    rcases hk with⟨kvs,hk⟩|⟨kvs,hk⟩
    ·obtain⟨_,_,_,_,o,_,_,e,ex,_⟩:=I.hok p _ hk
     exact⟨o,e,ex⟩
    ·obtain⟨_,_,_,_,o,_,_,e,ex,_⟩:=I.hok p _ hk
     exact⟨o,e,ex⟩
   obtain⟨o,e,ex⟩:=z
   refine⟨⟨o,e,ex.1⟩,λ a e2=>?_⟩
   cases e2
   exact⟨o,e,ex.2.1⟩
  ·obtain⟨o,_,_,_,e,ex,_⟩:=I.hok p _ hk
   refine⟨⟨o,e,ex.1⟩,λ a e2=>?_⟩
   cases e2
   exact⟨o,e,ex.2.1⟩
 | _=>exact False.elim ty
def tBM (K:PySem.W.Frag)(T:String)(r:V->List V->Hp->VK->Prop)(to:TE)(t:TA):TE:=λ σ H Q=>to σ H λ x H1=>tyV K T x H1/\t σ H1 λ xs H2=>r x xs H2 Q
variable {o e:Expr}{es:List Expr}{to:TE}{t:TA}{name:Str}{apos cpos:Pos}{T id:String}{r:V->List V->Hp->VK->Prop}
theorem pe_bm (pa:PlainAttrs T)(slot:Slot T name id)(hty:typeOf (.builtin id)=pure (.type "method_descriptor")) (hm:MtR X id r)(ho:PE X o to)(ha:PA X (e :: es) t)
  (hbase:attributeBase o name X.env (eval o X.env)=eval o X.env:=by rfl)
  (hfew:((backTo cpos (starEach (e :: es) X.env)).all (λ x=>!x.1) && (backToKw cpos (keywordEach [] X.env)).all (λ x=>x.1.isSome)
   && decide ((e :: es).length+([]:List Keyword).length+(if ([]:List Keyword).isEmpty then 0 else 1) < 30))=true:=by rfl)
  (hline:(apos.endLine == cpos.line)=true:=by rfl) (hs:starEach (e :: es) X.env=(false,eval e X.env) :: starEach es X.env:=by rfl) (hplain:(backTo cpos (starEach es X.env)).any (·.1)=false:=by rfl) :
  PE X (.Call (.Attribute o name apos) (e :: es) [] cpos) (tBM X.K T r to t):=by
 intro pins s σ H Q I h
 refine wpAny_Call_method_late hbase hfew hline rfl (thn (ho pins s σ H _ I h) λ v s1 ⟨x,H1,I1,r1,ty,q1⟩=>?_)
 obtain⟨h1,h2⟩:=tyV_is I1 r1 ty
 refine⟨T,id,pa,slot,hty,h1,h2,?_⟩
 have hA:=ha cpos pins s1 σ H1 _ I1 q1
 rw[hs]at hA ⊢
 refine Calls.callWith_builtin (by show(false || (backTo cpos (starEach es X.env)).any (·.1))=false;rw[hplain]<;>rfl) (Calls.evalArgs_plain ?_)
 exact thn hA λ us s2 ⟨vs,H2,I2,r2,q2⟩=>hm pins s2 σ H2 x vs v us Q I2 r1 r2 q2
end
end L2
namespace L2
open PySem PySem.Spec PyProof.Rows
def MtM (X:Cx)(id:String)(r:V->List V->Hp->VK->Prop):Prop:=
 ∀ (pins:List (Addr × Obj)) (s:Shared) (σ:St) (H:Hp) (x:V) (xs:List V) (v:Value) (us:List Value) (Q:VK),Inv X pins σ H s->RelV x v->Vals xs us->r x xs H Q->
  wpAny (model X.prog X.w) X.A (call (.builtin id) (v :: us)) (EP X pins σ Q) X.xe s
theorem Vals.one:∀ {x:V}{us:List Value},Vals [x] us->∃ u,us=[u]/\RelV x u
 | _,_,.cons r .nil=>⟨_,rfl,r⟩
theorem Vals.eraseIdx:∀ {xs:List V}{us:List Value}(i:Nat),Vals xs us->Vals (xs.eraseIdx i) (us.eraseIdx i)
 | _,_,_,.nil=>.nil
 | _,_,0,.cons _ t=>t
 | _,_,i+1,.cons r t=>.cons r (Vals.eraseIdx i t)
theorem len_erase {α:Type}:∀ (l:List α) (i:Nat),(l.eraseIdx i).length<=l.length
 | [],_=>Nat.le_refl _
 | _ :: _,0=>Nat.le_succ _
 | _ :: r,i+1=>Nat.succ_le_succ (len_erase r i)
section
variable {X:Cx}{pins:List (Addr × Obj)}{σ:St}{H:Hp}{s:Shared}{l b:Addr}{xs ys zs:List V}
theorem Inv.lset {its its':List Value}{n:Nat}{f:Array Value->Array Value}{t':Nat}(I:Inv X pins σ H s)(hH:H l=some (.lst xs))
  (e:s.heap.get? l=some { cls:=.type "list",data:=.seq its.toArray n }) (hf:f its.toArray=its'.toArray) (hv:Vals ys its') (hz:ys.length<=sizeLine) :
  Inv X pins σ (upd H l (.lst ys)) { s with heap:=s.heap.update l (Obj.mapSeq f),toks:=t' }:=by
 have q:=PySem.IsL.update e f
 rw[hf]at q
 refine I.write (x:=l) (e:=l) (by rw[hH];exact trivial) (.inl rfl) (λ b' u hb hu=>(Heap.get?_update_other s.heap (Obj.mapSeq f) (Ne.symm hb)).trans hu) ⟨_,q⟩ ?_
 exact⟨hz,its',_,hv,q⟩
theorem Inv.lnew {its:List Value}{t':Nat}(I:Inv X pins σ H s)(hv:Vals ys its)(hz:ys.length<=sizeLine) :
  Inv X pins σ (upd H s.heap.objs.size (.lst ys)) { s with heap:=s.heap.push { cls:=.type "list",data:=.seq its.toArray },toks:=t' }:=
 I.laid (λ _ _ q=>Heap.get?_push_of_some _ q) (Nat.le_refl _) ⟨hz,its,0,hv,Heap.get?_push_size _ rfl⟩
theorem Inv.fresh (I:Inv X pins σ H s):H s.heap.objs.size=none:=I.hok.fresh (Nat.le_refl _)
theorem Inv.lstM (I:Inv X pins σ H s)(hH:H l=some (.lst xs)):xs.length<=sizeLine/\∃ (its:List Value) (n:Nat),Vals xs its/\xs.length=its.length/\s.heap.get? l=some { cls:=.type "list",data:=.seq its.toArray n }:=by
 obtain⟨z,its,n,r,e⟩:=I.hok l _ hH
 exact⟨z,its,n,r,r.length,e⟩
theorem notLongL {n:Nat}(h:n<=sizeLine):Builtin.List.listTooLong n=false:=by
 unfold Builtin.List.listTooLong
 exact decide_eq_false (by omega)
end
section
variable {X:Cx}
def rAppend:V->List V->Hp->VK->Prop:=λ x vs H Q=>∃ l xs y,x=.ref l/\vs=[y]/\H l=some (.lst xs)/\xs.length < sizeLine/\Q .non (upd H l (.lst (xs++[y])))
theorem mt_append:MtM X "list.append" rAppend:=by
 intro pins s σ H x vs v us Q I rx rv h
 obtain⟨l,xs,y,rfl,rfl,hH,hz,q⟩:=h
 cases rx
 obtain⟨u,rfl,ru⟩:=rv.one
 obtain⟨z,its,n,r,hl,e⟩:=I.lstM hH
 refine call_meets F.slot_list_append ⟨_,e,rfl⟩ F.entry_list_append (F.args_list_append_2 _ _) (PySem.list_append l its.toArray n u (by rw[List.size_toArray];omega)) ⟨e,?_⟩
 refine⟨.non,_,I.lset (its':=its++[u]) hH e (by simp) (r.append (.cons ru .nil)) ?_,rfl,q⟩
 rw[List.length_append,List.length_singleton]
 omega
def rExtend:V->List V->Hp->VK->Prop:=λ x vs H Q=>∃ l b xs zs,x=.ref l/\vs=[.ref b]/\H l=some (.lst xs)/\H b=some (.lst zs)/\xs.length+zs.length<=sizeLine/\Q .non (upd H l (.lst (xs++zs)))
theorem mt_extend:MtM X "list.extend" rExtend:=by
 intro pins s σ H x vs v us Q I rx rv h
 obtain⟨l,b,xs,zs,rfl,rfl,hH,hB,hz,q⟩:=h
 cases rx
 obtain⟨u,rfl,ru⟩:=rv.one
 cases ru
 obtain⟨z,its,n,r,hl,e⟩:=I.lstM hH
 obtain⟨z2,its2,n2,r2,hl2,e2⟩:=I.lstM hB
 have hsz:its.toArray.size+its2.toArray.size<=sizeLine:=by rw[List.size_toArray,List.size_toArray];omega
 have hlong:¬ (!its.toArray.isEmpty && Builtin.List.listTooLong (its.toArray.size+its2.toArray.size))=true:=by
  rw[notLongL hsz,Bool.and_false]
  exact Bool.false_ne_true
 refine call_meets F.slot_list_extend ⟨_,e,rfl⟩ F.entry_list_extend (F.args_list_extend_2 _ _)
  (AutoSeq1.list_extend_list_list_0 l its.toArray n b its2.toArray n2 hlong (by rw[List.size_toArray];omega) (by omega)) ⟨e,e2,?_⟩
 refine⟨.non,_,I.lset (its':=its++its2) hH e (by simp) (r.append r2) ?_,rfl,q⟩
 rw[List.length_append]
 omega
def rPopAt:V->List V->Hp->VK->Prop:=λ x vs H Q=>∃ l xs i k y,x=.ref l/\vs=[.int i]/\H l=some (.lst xs)/\-(2 ^ 63)<=i/\i < 2 ^ 63/\seqIndex? i xs.length=some k/\xs[k]? = some y/\Q y (upd H l (.lst (xs.eraseIdx k)))
theorem mt_popAt:MtM X "list.pop" rPopAt:=by
 intro pins s σ H x vs v us Q I rx rv h
 obtain⟨l,xs,i,k,y,rfl,rfl,hH,h1,h2,hk,hy,q⟩:=h
 cases rx
 obtain⟨u,rfl,ru⟩:=rv.one
 obtain⟨t,rfl⟩:=ru
 obtain⟨z,its,n,r,hl,e⟩:=I.lstM hH
 obtain⟨w,hw,rw'⟩:=r.get hy
 refine call_meets F.slot_list_pop ⟨_,e,rfl⟩ F.entry_list_pop (F.args_list_pop_2 _ _)
  (MeetsSeq.list_pop_at l its.toArray n i t k w (fitsIndex_both h1 h2) (by rw[List.size_toArray,<-hl];exact hk) (by rw[<-Array.getElem?_toList];exact hw) (by rw[List.size_toArray];omega)) ⟨e,?_⟩
 refine⟨y,_,I.lset (its':=its.eraseIdx k) hH e ?_ (r.eraseIdx k) ?_,rw',q⟩
 ·show its.toArray.eraseIdxIfInBounds k=(its.eraseIdx k).toArray
  rw[List.eraseIdxIfInBounds_toArray]
 ·have:=len_erase xs k
  omega
def rCat:R2:=λ x y H Q=>∃ l b xs zs,x=.ref l/\y=.ref b/\H l=some (.lst xs)/\H b=some (.lst zs)/\xs.length+zs.length<=sizeLine/\∀ p,H p=none->Q (.ref p) (upd H p (.lst (xs++zs)))
theorem op_cat:OpR X (binaryOp .Add) rCat:=by
 intro pins s σ H x y v u Q I rx ry h
 obtain⟨l,b,xs,zs,rfl,rfl,hH,hB,hz,q⟩:=h
 cases rx
 cases ry
 obtain⟨z,its,n,r,hl,e⟩:=I.lstM hH
 obtain⟨z2,its2,n2,r2,hl2,e2⟩:=I.lstM hB
 refine PySem.P.add_list e e2 ?_ (by rw[List.size_toArray,List.size_toArray];omega)
 have ea:its.toArray++its2.toArray=(its++its2).toArray:=by simp
 rw[ea]
 exact⟨.ref _,_,I.lnew (t':=s.toks) (r.append r2) (by rw[List.length_append];omega),rfl,q _ I.fresh⟩
end
section
variable {prog:Program}{w:World}{A:Around}{E:Value->Shared->Prop}{s:Shared}
end
section
variable {X:Cx}
end
end L2
namespace L2
open PySem PySem.Spec PyProof.Rows
section
variable {κ:Type} [DecidableEq κ]
def valV (kvs:List (κ × V)) (k:κ):Option V:=(kvs.find? λ kv=>decide (kv.1=k)).map (·.2)
def putK (kvs:List (κ × V)) (k:κ)(v:V):List (κ × V):=
 if (kvs.any λ kv=>decide (kv.1=k))=true then kvs.map (λ kv=>if kv.1=k then (kv.1,v) else kv) else kvs++[(k,v)]
theorem valV_pos {p:κ × V}{r:List (κ × V)}{k:κ}(e:p.1=k):valV (p :: r) k=some p.2:=by simp[valV,List.find?_cons,e]
theorem valV_neg {p:κ × V}{r:List (κ × V)}{k:κ}(e:¬ p.1=k):valV (p :: r) k=valV r k:=by simp[valV,List.find?_cons,e]
theorem valV_any (k:κ):∀ kvs:List (κ × V),(kvs.any λ kv=>decide (kv.1=k))=(valV kvs k).isSome
 | []=>rfl
 | p :: r=>by
  rw[List.any_cons]
  by_cases e:p.1=k
  ·simp only[valV_pos e,decide_eq_true e,Bool.true_or,Option.isSome_some]
  ·rw[valV_neg e,decide_eq_false e,Bool.false_or];exact valV_any k r
theorem length_putK (kvs:List (κ × V)) (k:κ)(v:V):(putK kvs k v).length<=kvs.length+1:=by
 unfold putK
 split
 ·rw[List.length_map];omega
 ·rw[List.length_append,List.length_cons,List.length_nil];omega
theorem RelO.isSome_eq {o:Option V}{u:Option Value}(r:RelO o u):o.isSome=u.isSome:=by
 cases o with
 | none=>cases u with
  | none=>rfl
  | some _=>exact(show False from r).elim
 | some _=>cases u with
  | none=>exact(show False from r).elim
  | some _=>rfl
theorem KV.val {kvs:List (κ × V)}{vs:List (κ × Value)}(r:KV kvs vs)(k:κ):RelO (valV kvs k) (valueAt vs k):=by
 unfold KV at r
 induction r with
 | nil=>exact True.intro
 | @cons p q ps qs h t ih=>
  obtain⟨h1,h2⟩:=h
  by_cases e:p.1=k
  ·have e':q.1=k:=h1.symm.trans e
   have b:valueAt (q :: qs) k=some q.2:=by simp[valueAt,List.find?_cons,e']
   rw[valV_pos e,b];exact h2
  ·have e':¬ q.1=k:=λ z=>e (h1.trans z)
   have b:valueAt (q :: qs) k=valueAt qs k:=by simp[valueAt,List.find?_cons,e']
   rw[valV_neg e,b];exact ih
theorem KV.any {kvs:List (κ × V)}{vs:List (κ × Value)}(r:KV kvs vs)(k:κ):(kvs.any λ kv=>decide (kv.1=k))=vs.any λ kv=>decide (kv.1=k):=by
 unfold KV at r
 induction r with
 | nil=>rfl
 | cons h t ih=>rw[List.any_cons,List.any_cons,ih,h.1]
theorem KV.repl {kvs:List (κ × V)}{vs:List (κ × Value)}(r:KV kvs vs)(k:κ){y:V}{u:Value}(ry:RelV y u) :
  KV (kvs.map λ kv=>if kv.1=k then (kv.1,y) else kv) (vs.map λ kv=>if kv.1=k then (kv.1,u) else kv):=by
 unfold KV at r ⊢
 induction r with
 | nil=>exact .nil
 | @cons p q ps qs h t ih=>
  rw[List.map_cons,List.map_cons]
  refine .cons ?_ ih
  obtain⟨h1,h2⟩:=h
  by_cases e:p.1=k
  ·rw[if_pos e,if_pos (h1.symm.trans e)];exact⟨h1,ry⟩
  ·rw[if_neg e,if_neg (λ z=>e (h1.trans z))];exact⟨h1,h2⟩
theorem KV.put {kvs:List (κ × V)}{vs:List (κ × Value)}(r:KV kvs vs)(k:κ){y:V}{u:Value}(ry:RelV y u):KV (putK kvs k y) (stored vs k u):=by
 unfold putK stored
 rw[r.any k]
 by_cases e:(vs.any λ kv=>decide (kv.1=k))=true
 ·rw[if_pos e,if_pos e];exact r.repl k ry
 ·rw[if_neg e,if_neg e];exact Paired.snoc r ⟨rfl,ry⟩
theorem KV.length {kvs:List (κ × V)}{vs:List (κ × Value)}(r:KV kvs vs):kvs.length=vs.length:=Paired.length r
end
theorem kV_is {P:Program}{w:World}{k:Key}{u:Value}(r:RelV (kV k) u):(mixKind P w).is k u=true:=by
 cases k with
 | inl i=>obtain⟨t,e⟩:=(show ∃ t,u=Value.int i t from r);subst e;exact mixKind_int P w i t
 | inr x=>obtain⟨t,e⟩:=(show ∃ t,u=Value.str x t from r);subst e;exact mixKind_str P w x t
theorem items_are {P:Program}{w:World}:∀ {ks:List Key}{us:List Value},Vals (ks.map kV) us->ItemsAre (mixKind P w) ks us
 | [],_,r=>by rw[List.map_nil]at r;cases r;exact .nil
 | k :: ks,_,r=>by
  rw[List.map_cons]at r
  cases r with
  | cons h t=>exact .cons (kV_is h) (items_are t)
abbrev KT (H:Hp):List (List Key × V)->List (List Key × Addr × Value)->Prop:=Paired λ p q=>p.1=q.1/\H q.2.1=some (.tup (p.1.map kV))/\RelV p.2 q.2.2
theorem KT.val {H:Hp}{kvs:List (List Key × V)}{xs:List (List Key × Addr × Value)}(r:KT H kvs xs)(k:List Key):RelO (valV kvs k) ((atKey xs k).map (·.2)):=by
 induction r with
 | nil=>exact True.intro
 | @cons p q ps qs h t ih=>
  obtain⟨h1,_,h2⟩:=h
  by_cases e:p.1=k
  ·have e':q.1=k:=h1.symm.trans e
   have b:atKey (q :: qs) k=some q.2:=by simp[atKey,List.find?_cons,e']
   rw[valV_pos e,b];exact h2
  ·have e':¬ q.1=k:=λ z=>e (h1.trans z)
   have b:atKey (q :: qs) k=atKey qs k:=by simp[atKey,List.find?_cons,e']
   rw[valV_neg e,b];exact ih
theorem KT.repl {H:Hp}{kvs:List (List Key × V)}{xs:List (List Key × Addr × Value)}(r:KT H kvs xs)(k:List Key){y:V}{u:Value}(ry:RelV y u) :
  KT H (kvs.map λ kv=>if kv.1=k then (kv.1,y) else kv) (xs.map (putAt k u)):=by
 induction r with
 | nil=>exact .nil
 | @cons p q ps qs h t ih=>
  rw[List.map_cons,List.map_cons]
  refine .cons ?_ ih
  obtain⟨h1,h2,h3⟩:=h
  unfold putAt
  by_cases e:p.1=k
  ·rw[if_pos e,if_pos (h1.symm.trans e)];exact⟨h1,h2,ry⟩
  ·rw[if_neg e,if_neg (λ z=>e (h1.trans z))];exact⟨h1,h2,h3⟩
theorem KT.put {H:Hp}{kvs:List (List Key × V)}{xs:List (List Key × Addr × Value)}(r:KT H kvs xs)(k:List Key){b:Addr}{y:V}{u:Value}(hb:H b=some (.tup (k.map kV))) (ry:RelV y u) :
  KT H (putK kvs k y) (storedH xs k b u):=by
 have e:(kvs.any λ kv=>decide (kv.1=k))=(atKey xs k).isSome:=by
  rw[valV_any,(r.val k).isSome_eq,Option.isSome_map]
 unfold putK storedH
 rw[e]
 by_cases q:(atKey xs k).isSome=true
 ·rw[if_pos q,if_pos q];exact r.repl k ry
 ·rw[if_neg q,if_neg q];exact Paired.snoc r ⟨rfl,hb,ry⟩
theorem KT.keeps {H H':Hp}{kvs:List (List Key × V)}{xs:List (List Key × Addr × Value)}(r:KT H kvs xs)(ht:∀ b ys,H b=some (.tup ys)->H' b=some (.tup ys)):KT H' kvs xs:=
 Paired.mapP r λ _ _ z=>⟨z.1,ht _ _ z.2.1,z.2.2⟩
section
variable {P:Program}{w:World}{H:Hp}{h:Heap}{a:Addr}
theorem rd_of {u:HO}(ok:HOk P w H h)(e:Rd H a u):ObjOk P w H h a u:=e.ok ok
theorem dk_rd {kvs:List (Key × V)}(ok:HOk P w H h)(e:Rd H a (.dK kvs)):kvs.length<=sizeLine/\(a == sysModules)=false/\∃ vs,KV kvs vs/\h.DictOf (mixKind P w) a vs:=
 show ObjOk P w H h a (.dK kvs) from rd_of ok e
theorem dk_of {kvs:List (Key × V)}(ok:HOk P w H h)(e:H a=some (.dK kvs)):kvs.length<=sizeLine/\(a == sysModules)=false/\∃ vs,KV kvs vs/\h.DictOf (mixKind P w) a vs:=dk_rd ok (.inl e)
theorem key_of {ks:List Key}(ok:HOk P w H h)(e:H a=some (.tup (ks.map kV))):(tupleKind (mixKind P w)).is h ks a:=by
 obtain⟨_,its,r,o,h1,h2,n,h3⟩:=(show ObjOk P w H h a (.tup (ks.map kV)) from ok a _ e)
 exact⟨o,its.toArray,n,h1,h2,h3,by simpa using items_are r⟩
theorem dt_rd {kvs:List (List Key × V)}(ok:HOk P w H h)(e:Rd H a (.dT kvs)):kvs.length<=sizeLine/\(a == sysModules)=false/\
  ∃ xs,KT H kvs xs/\h.DictOfH (tupleKind (mixKind P w)) a xs:=by
 obtain⟨z,y,xs,r,o,es,ep,h1,h2,h3,h4,h5⟩:=(show ObjOk P w H h a (.dT kvs) from rd_of ok e)
 refine⟨z,y,xs,r,o,es,ep,h1,h2,h3,h4,λ x hx=>?_,h5⟩
 have all:∀ {l:List (List Key × V)}{m:List (List Key × Addr × Value)},KT H l m->∀ x∈m,(tupleKind (mixKind P w)).is h x.1 x.2.1:=by
  intro l m q
  induction q with
  | nil=>intro x hx;exact nomatch hx
  | @cons p q ps qs hq t ih=>
   intro x hx
   rcases List.mem_cons.mp hx with e|hx
   ·subst e
    exact key_of ok (by rw[<-hq.1];exact hq.2.1)
   ·exact ih x hx
 exact all r x hx
theorem dt_of {kvs:List (List Key × V)}(ok:HOk P w H h)(e:H a=some (.dT kvs)):kvs.length<=sizeLine/\(a == sysModules)=false/\
  ∃ xs,KT H kvs xs/\h.DictOfH (tupleKind (mixKind P w)) a xs:=dt_rd ok (.inl e)
end
def DGet (H:Hp)(a:Addr)(y:V)(r:Option V):Prop:=
 (∃ kvs k,Rd H a (.dK kvs)/\y=kV k/\r=valV kvs k)∨∃ kvs k b,Rd H a (.dT kvs)/\y=.ref b/\H b=some (.tup (k.map kV))/\r=valV kvs k
def DPut (H:Hp)(a:Addr)(y v:V)(H':Hp):Prop:=
 (∃ kvs k,H a=some (.dK kvs)/\y=kV k/\kvs.length < sizeLine/\H'=upd H a (.dK (putK kvs k v)))∨
 ∃ kvs k b,H a=some (.dT kvs)/\y=.ref b/\H b=some (.tup (k.map kV))/\kvs.length < sizeLine/\H'=upd H a (.dT (putK kvs k v))
theorem DGet.k {H:Hp}{a:Addr}{kvs:List (Key × V)}{k:Key}(e:H a=some (.dK kvs)):DGet H a (kV k) (valV kvs k):=.inl ⟨kvs,k,.inl e,rfl,rfl⟩
theorem DPut.k {H:Hp}{a:Addr}{kvs:List (Key × V)}{k:Key}{v:V}(e:H a=some (.dK kvs)) (hl:kvs.length < sizeLine):DPut H a (kV k) v (upd H a (.dK (putK kvs k v))):=.inl ⟨kvs,k,e,rfl,hl,rfl⟩
section
variable {X:Cx}{pins:List (Addr × Obj)}{σ:St}{H:Hp}{s:Shared}{a:Addr}{y v:V}{u r:Value}{o:Option V}{A:Around}{E:Value->Shared->Prop}
theorem Inv.big (I:Inv X pins σ H s):sysModules < s.heap.objs.size:=by
 have h:mainGlobals < s.heap.objs.size:=(I.mod.glob.keeps I.bk).lt
 exact Nat.lt_trans (by decide) h
theorem d_getItem {Q:Value->Shared->Prop}(hu:A.units+1 < cLine)(I:Inv X pins σ H s)(g:DGet H a y (some v)) (ry:RelV y u)(h:∀ w' s',Inv X pins σ H s'->RelV v w'->Q w' s') :
  wpAny (model X.prog X.w) A (getItem (.ref a) u) Q E s:=by
 rcases g with⟨kvs,k,e,ey,l⟩|⟨kvs,k,b,e,ey,eb,l⟩
 ·subst ey
  obtain⟨z,hd,vs,rel,dd⟩:=dk_rd I.hok e
  obtain⟨w',hw,rw'⟩:=RelO.some_of (v:=v) (o:=valueAt vs k) (by rw[l];exact rel.val k)
  exact wpAny_getItem_of (kV_is ry) dd.mapOf hw (h w' _ (I.tok _) rw')
 ·subst ey
  cases (show u=Value.ref b from ry)
  obtain⟨z,hd,xs,rel,dd⟩:=dt_rd I.hok e
  obtain⟨w',hw,rw'⟩:=RelO.some_of (v:=v) (o:=(atKey xs k).map (·.2)) (by rw[l];exact rel.val k)
  obtain⟨p,hp,hp2⟩:=Option.map_eq_some_iff.mp hw
  refine wpAny_getItem_heap (tupleKind_room_in1 hu) (key_of I.hok eb) dd hp ?_
  rw[hp2]
  exact h w' _ (I.tok _) rw'
theorem d_write {h':Heap}{t':Nat}{ob:HO}(I:Inv X pins σ H s)(mu:Mut (H a)) (hs:Heap.SameBut a s.heap h')(he:∃ q,h'.get? a=some q)(new:ObjOk X.prog X.w (upd H a ob) h' a ob) :
  Inv X pins σ (upd H a ob) { s with heap:=h',toks:=t' }:=
 I.write (x:=a) (e:=a) mu (.inl rfl) (λ b q hb z=>(hs.2 b hb).trans z) he new
theorem dk_new {P:Program}{w:World}{H':Hp}{h':Heap}{kvs:List (Key × V)}{vs:List (Key × Value)}(z:kvs.length<=sizeLine)(hd:(a == sysModules)=false) (rel:KV kvs vs)(dd:h'.DictOf (mixKind P w) a vs) :
  ObjOk P w H' h' a (.dK kvs):=⟨z,hd,vs,rel,dd⟩
theorem d_setItem {H':Hp}{Q:Unit->Shared->Prop}(hu:A.units+1 < cLine)(I:Inv X pins σ H s)(g:DPut H a y v H')(ry:RelV y u)(rv:RelV v r)(h:∀ s',Inv X pins σ H' s'->Q () s') :
  wpAny (model X.prog X.w) A (setItem (.ref a) u r) Q E s:=by
 rcases g with⟨kvs,k,e,ey,l,eH⟩|⟨kvs,k,b,e,ey,eb,l,eH⟩
 ·subst ey eH
  obtain⟨z,hd,vs,rel,dd⟩:=dk_of I.hok e
  have hz:vs.length<=sizeLine:=by rw[<-rel.length];exact z
  have hl:(putK kvs k v).length<=sizeLine:=by have:=length_putK kvs k v;omega
  refine wpAny_setItem_pairs (hsz:=hz) (kV_is ry) dd λ h' dd' hs=>h _ ?_
  have he:∃ q,h'.get? a=some q:=let ⟨q,_,_,hq,_⟩:=dd';⟨q,hq⟩
  exact d_write I (by rw[e];exact True.intro) hs he (dk_new hl hd (rel.put k rv) dd')
 ·subst ey eH
  cases (show u=Value.ref b from ry)
  obtain⟨z,hd,xs,rel,dd⟩:=dt_of I.hok e
  have hz:xs.length<=sizeLine:=by rw[<-Paired.length rel];exact z
  have hl:(putK kvs k v).length<=sizeLine:=by have:=length_putK kvs k v;omega
  refine wpAny_setItem_heap (hsz:=hz) (tupleKind_room_in1 hu) (key_of I.hok eb) dd λ h' dd' hs=>h _ ?_
  obtain⟨q,es,ep,hq,h2,h3,h4,_,h5⟩:=dd'
  refine d_write I (by rw[e];exact True.intro) hs ⟨q,hq⟩ ⟨hl,hd,_,(rel.put k eb rv).keeps λ c ys ec=>?_,q,es,ep,hq,h2,h3,h4,h5⟩
  rw[upd_ne (ne_of ec e (λ z=>nomatch z))]
  exact ec
end
section
variable {X:Cx}{pins:List (Addr × Obj)}{σ:St}{H:Hp}{s:Shared}{a:Addr}{kvs:List (Key × V)}{k:Key}{u:Value}{A:Around}{E:Value->Shared->Prop}
end
def NoSl (i:Expr):Prop:=∀ ov iv,subscripted i false ov iv=operate [ov,iv] (getItem ov iv)
theorem subD_of {prog:Program}{w:World}{A:Around}{E:Value->Shared->Prop}{s:Shared}{env:Env}{value slice:Expr}{pos:Pos}{T id:String}{Q:Value->Shared->Prop}
  (hl:typeLookup (.type T) "__getitem__"=pure (some (.builtin id))) (hs:NoSl slice)
  (h:wpAny (model prog w) A (eval value env) (λ o s₁=>wpAny (model prog w) A (eval slice env) (λ i s₂=>s₂.TypeIs o T/\wpAny (model prog w) A (getItem o i) Q E s₂) E s₁) E s) :
  wpAny (model prog w) A (eval (.Subscript value slice pos) env) Q E s:=by
 refine Subscript_ (wpAny_mono h (λ o s₁ h₁=>wpAny_mono h₁ (λ i s₂ h₂=>?_) λ _ _ x=>x) λ _ _ x=>x)
 obtain⟨hT,h₂⟩:=h₂
 unfold subscriptTail
 refine wpAny_bind ?_
 rw[getitemInPython_of_ne hT.not_modules]
 refine wpAny_bind (wpAny_specialOf hT hl ?_)
 have fin:wpAny (model prog w) A (subscripted slice false o i) (λ r s₃=>wpAny (model prog w) A (letTemporaryGo value o r >>= λ _=>pure r) Q E s₃) E s₂:=by
  rw[hs o i]
  exact wpAny_operating (wpAny_mono h₂ (λ r s₃ h₃=>wpAny_bind (wpAny_letTemporaryGo (wpAny_pure h₃))) λ _ _ x=>x)
 first
  | exact wpAny_pure (wpAny_bind fin)
  | exact wpAny_bind (wpAny_pure (wpAny_bind fin))
  | exact wpAny_bind fin
theorem dict_typeIs {X:Cx}{pins:List (Addr × Obj)}{σ:St}{H:Hp}{s:Shared}{a:Addr}{y:V}{o:Option V}(I:Inv X pins σ H s)(g:DGet H a y o):s.TypeIs (.ref a) "dict":=by
 rcases g with⟨kvs,k,e,_,_⟩|⟨kvs,k,b,e,_,_,_⟩
 ·obtain⟨_,_,vs,_,dd⟩:=dk_rd I.hok e
  exact dd.typeIs
 ·obtain⟨_,_,xs,_,dd⟩:=dt_rd I.hok e
  exact dd.typeIs
def tDGet (td ty:TE):TE:=λ σ H Q=>td σ H λ x H1=>ty σ H1 λ y H2=>∃ a v,x=.ref a/\DGet H2 a y (some v)/\Q v H2
def sDPut (td ty tv:TE):TS:=λ D σ H=>tv σ H λ v H1=>td σ H1 λ x H2=>ty σ H2 λ y H3=>∃ a H4,x=.ref a/\DPut H3 a y v H4/\D.nx σ H4
section
variable {X:Cx}{o i e value:Expr}{pos pos' tpos:Pos}{td ty tv:TE}
theorem pe_dget (hu:X.A.units+1 < cLine)(ho:PE X o td)(hi:PE X i ty)(hs:NoSl i):PE X (.Subscript o i pos) (tDGet td ty):=by
 intro pins s σ H Q I h
 refine subD_of PySem.F.slot_dict_getitem.lookup hs (thn (ho pins s σ H _ I h) λ u s1 ⟨x,H1,I1,rx,q1⟩=>thn (hi pins s1 σ H1 _ I1 q1) λ iv s2 ⟨y,H2,I2,ry,a,v,ex,g,q2⟩=>?_)
 subst ex
 obtain rfl:u=Value.ref a:=rx
 exact⟨dict_typeIs I2 g,d_getItem hu I2 g ry λ w' s3 I3 rw'=>⟨v,H2,I3,rw',q2⟩⟩
theorem ps_dput (hu:X.A.units+1 < cLine)(ho:PE X o td)(hi:PE X i ty)(hv:PE X value tv)(hs:swapsWith value (some (.Subscript o i pos')) pos.line X.env=pure false) :
  PS X (.Assign [.Subscript o i pos'] value pos) (sDPut td ty tv):=by
 intro pins s σ H D I h
 refine wpAny_Assign_Subscript (thn (hv pins s σ H _ I h) λ r s1 ⟨v,H1,I1,rv,q1⟩=>thn (ho pins s1 σ H1 _ I1 q1) λ u s2 ⟨x,H2,I2,rx,q2⟩=>thn (hi pins s2 σ H2 _ I2 q2) λ iv s3 ⟨y,H3,I3,ry,a,H4,ex,g,q3⟩=>?_) hs
 subst ex
 obtain rfl:u=Value.ref a:=rx
 exact d_setItem hu I3 g ry rv λ s4 I4=>⟨σ,H4,I4,q3⟩
end
theorem dk_empty {P:Program}{w:World}{H:Hp}(h:Heap)(hb:sysModules < h.objs.size):ObjOk P w H (h.push { cls:=.type "dict",data:=.dict #[] }) h.objs.size (.dK []):=
 ⟨Nat.zero_le _,beq_eq_false_iff_ne.mpr (Ne.symm (Nat.ne_of_lt hb)),[],.nil,Heap.DictOf.new h⟩
def tDNewK:TE:=λ _ H Q=>∀ p,H p=none->Q (.ref p) (upd H p (.dK []))
section
variable {X:Cx}{pos:Pos}
theorem pe_dnewK:PE X (.Dict [] [] pos) tDNewK:=λ pins s σ H Q I h=>
 wpAny_Dict_empty ⟨.ref s.heap.objs.size,_,I.laid (a:=s.heap.objs.size) (o:=.dK []) (t':=s.toks) (λ _ _ q=>Heap.get?_push_of_some _ q) (Nat.le_refl _) (dk_empty s.heap I.big),rfl,h _ (I.hok.fresh (Nat.le_refl _))⟩
end
def tPairs:List (TE × TE)->St->Hp->(List (V × V)->Hp->Prop)->Prop
 | [],_,H,Q=>Q [] H
 | (tk,tv) :: r,σ,H,Q=>tk σ H λ x H1=>tv σ H1 λ y H2=>tPairs r σ H2 λ ps H3=>Q ((x,y) :: ps) H3
abbrev VV:List (V × V)->List (Value × Value)->Prop:=Paired λ p q=>RelV p.1 q.1/\RelV p.2 q.2
def PPs (X:Cx)(pos:Pos)(keys:List (Option Expr)) (values:List Expr)(trs:List (TE × TE)):Prop:=
 ∀ (pins:List (Addr × Obj)) (s:Shared) (σ:St) (H:Hp) (Q:List (V × V)->Hp->Prop),Inv X pins σ H s->tPairs trs σ H Q->
  wpAny (model X.prog X.w) X.A (evalPairs (pairTrees keys values X.env pos)) (λ vs s'=>∃ ps H',Inv X pins σ H' s'/\VV ps vs/\Q ps H') X.xe s
theorem pps_nil {X:Cx}{pos:Pos}:PPs X pos [] [] []:=λ pins s σ H Q I h=>pairTrees_nil_walk ⟨[],H,I,.nil,h⟩
theorem pps_cons {X:Cx}{pos:Pos}{k v:Expr}{ks:List (Option Expr)}{vs:List Expr}{tk tv:TE}{trs:List (TE × TE)}(hk:PE X k tk)(hv:PE X v tv)(hr:PPs X pos ks vs trs) :
  PPs X pos (some k :: ks) (v :: vs) ((tk,tv) :: trs):=λ pins s σ H Q I h=>
 pairTrees_cons_walk (thn (hk pins s σ H _ I h) λ u s1 ⟨x,H1,I1,rx,q1⟩=>thn (hv pins s1 σ H1 _ I1 q1) λ w2 s2 ⟨y,H2,I2,ry,q2⟩=>
  thn (hr pins s2 σ H2 _ I2 q2) λ ws s3 ⟨ps,H3,I3,rel,q3⟩=>⟨(x,y) :: ps,H3,I3,.cons ⟨rx,ry⟩ rel,q3⟩)
def mergeK (kvs more:List (Key × V)):List (Key × V):=more.foldl (λ acc kv=>putK acc kv.1 kv.2) kvs
theorem KV.merge:∀ {more:List (Key × V)}{rs:List (Key × Value)}{kvs:List (Key × V)}{vs:List (Key × Value)},KV more rs->KV kvs vs->KV (mergeK kvs more) (merged vs rs):=by
 intro more rs kvs vs r
 unfold KV at r
 induction r generalizing kvs vs with
 | nil=>intro q;exact q
 | @cons p q ps qs h t ih=>
  intro r0
  have e:KV (putK kvs p.1 p.2) (stored vs q.1 q.2):=by
   have:=r0.put p.1 h.2
   rw[<-h.1];exact this
  exact ih e
theorem length_mergeK:∀ (more kvs:List (Key × V)),(mergeK kvs more).length<=kvs.length+more.length
 | [],kvs=>by show kvs.length<=kvs.length+0;omega
 | p :: r,kvs=>by
  have h1:=length_mergeK r (putK kvs p.1 p.2)
  have h2:=length_putK kvs p.1 p.2
  show(mergeK (putK kvs p.1 p.2) r).length<=_
  rw[List.length_cons];omega
theorem carries_of {P:Program}{w:World}:∀ {kvs:List (Key × V)}{ws:List (Value × Value)},VV (kvs.map λ kv=>(kV kv.1,kv.2)) ws->∃ rs,Carries (mixKind P w) ws rs/\KV kvs rs
 | [],_,r=>by rw[List.map_nil]at r;cases r;exact⟨[],True.intro,.nil⟩
 | p :: kvs,_,r=>by
  rw[List.map_cons]at r
  cases r with
  | @cons a b as bs h t=>
   obtain⟨rs,c,q⟩:=carries_of (P:=P) (w:=w) t
   obtain⟨b1,b2⟩:=b
   exact⟨(p.1,b2) :: rs,⟨kV_is h.1,rfl,c⟩,.cons ⟨rfl,h.2⟩ q⟩
def tDisp (trs:List (TE × TE)):TE:=λ σ H Q=>∀ p,H p=none->tPairs trs σ (upd H p (.dK [])) λ ps H2=>H2 p=some (.dK [])/\∃ kvs:List (Key × V),ps=kvs.map (λ kv=>(kV kv.1,kv.2))/\kvs.length<=15/\Q (.ref p) (upd H2 p (.dK (mergeK [] kvs)))
theorem pe_disp {X:Cx}{pos:Pos}{keys:List (Option Expr)}{values:List Expr}{trs:List (TE × TE)}(h:PPs X pos keys values trs)(hall:keys.all (·.isSome)=true) (hl:keys.length=values.length)(h0:keys≠[])
  (h15:keys.length<=15):PE X (.Dict keys values pos) (tDisp trs):=by
 intro pins s σ H Q I q
 have hn:=I.hok.fresh (Nat.le_refl s.heap.objs.size)
 have I1:=I.laid (a:=s.heap.objs.size) (o:=.dK []) (h':=s.heap.push { cls:=.type "dict",data:=.dict #[] }) (t':=s.toks) (λ _ _ q=>Heap.get?_push_of_some _ q) (Nat.le_refl _) (dk_empty s.heap I.big)
 refine wpAny_Dict_walk (knd:=mixKind X.prog X.w) hall hl h0 h15 (thn (h pins _ σ _ _ I1 (q _ hn)) λ ws s2 ⟨ps,H2,I2,rel,e,kvs,ep,lk,q2⟩=>?_)
 subst ep
 obtain⟨rs,c,rk⟩:=carries_of (P:=X.prog) (w:=X.w) rel
 obtain⟨z,hd,vs0,r0,dd⟩:=dk_of I2.hok e
 cases r0
 refine⟨rs,c,dd,λ h' dd' hs=>⟨.ref s.heap.objs.size,_,?_,rfl,q2⟩⟩
 have hz:(mergeK [] kvs).length<=sizeLine:=by
  have h1:=length_mergeK kvs []
  rw[List.length_nil]at h1
  rw[sizeLine_eq];omega
 have he:∃ q,h'.get? s.heap.objs.size=some q:=let ⟨q,_,_,hq,_⟩:=dd';⟨q,hq⟩
 exact d_write I2 (by rw[e];exact True.intro) hs he (dk_new hz hd (rk.merge .nil) dd')
section
variable {X:Cx}{pins:List (Addr × Obj)}{σ:St}{H:Hp}{s:Shared}{a:Addr}{y d:V}{u r:Value}{o:Option V}{A:Around}{E:Value->Shared->Prop}
end
section
variable {X:Cx}{o e f:Expr}{apos cpos:Pos}{td ty tx:TE}
end
section
variable {X:Cx}{pins:List (Addr × Obj)}{σ:St}{H:Hp}{s:Shared}{a:Addr}{kvs:List (Key × V)}{A:Around}{E:Value->Shared->Prop}
end
section
variable {X:Cx}{pins:List (Addr × Obj)}{σ:St}{H:Hp}{s:Shared}{a:Addr}{y:V}{u:Value}{A:Around}{E:Value->Shared->Prop}
end
end L2
namespace Att
open PySem PySem.W PySem.Calls PyProof.Rows
theorem ints_of_wellAll {P:Params}{h:Heap}:∀ (ns:List Int) (vs:List Value),WellAll P h vs (ns.map WData.int)->IntsAre vs ns:=by
 intro ns
 induction ns with
 | nil=>
  intro vs w
  rw[List.map_nil]at w
  cases w
  exact .nil
 | cons n ns ih=>
  intro vs w
  rw[List.map_cons]at w
  cases w with
  | cons a b=>
   cases a
   exact .cons _ _ (ih _ b)
theorem script_of {l:OpenLaw}{n:Nat}(hn:l.most=some n){P:Params}{h:Heap}{args:List WData}{vals:List Value}
  (hpre:l.row.toRowW.claim.pre args=true) (hwl:WellAll P h vals args) :
  ∃ a vs ns,vals=[Value.ref a]/\args=[WData.list (ns.map WData.int)]/\h.get? a=some { cls:=.type "list",data:=.seq vs.toArray }/\IntsAre vs ns/\ns.length<=n:=by
 have hsh:WShape.hasAll [] args [.list .int]=true:=(pre_splitW hpre).1
 have hc:l.pre.holds [] { args:=args }=true:=(pre_splitW hpre).2
 obtain⟨d,r,rfl,h1,h2⟩:=hasAllW_cons hsh
 obtain rfl:=hasAllW_nil h2
 obtain⟨xs,rfl,h3⟩:=hasW_list h1
 obtain⟨ns,rfl⟩:=items_int h3
 have hlen:ns.length<=n:=by
  unfold OpenLaw.pre at hc
  have h4:(WTm.not (.lt (.lit (.int (n:Int))) (.len (.arg 0)))).holds [] { args:=[.list (ns.map .int)] }=true:=by
   have h4:=(holds_andW hc).1
   rw[hn]at h4
   exact h4
  have h5:=condW_of h4 (w_not (w_lt w_lit (w_len_list (w_arg rfl))))
  rw[List.length_map]at h5
  refine Nat.le_of_not_lt λ q=>?_
  have q':(n:Int) < ((ns.length:Nat):Int):=by omega
  first
   | (rw[decide_eq_true q']at h5;exact absurd h5 (by decide))
   | (simp at h5;omega)
 cases hwl with
 | cons w1 w2=>
  cases w2
  cases w1 with
  | list ho hall=>exact⟨_,_,ns,rfl,rfl,ho,ints_of_wellAll ns _ hall,hlen⟩
theorem post_true (l:OpenLaw)(args:List WData):l.row.toRowW.claim.post args (.bool true) args=true:=
 postW_of (r:=l.row.toRowW) (X:=(true == true))
  (show WShape.has [] (.bool true) .bool=true by first|rfl|decide|simp[WShape.has,WShape.arms,WShape.armsAll])
  (show(WTm.eq .res (.lit (.bool true))).value [] { args:=args,res:=some (.bool true),after:=args }=some (.bool (true == true)) from w_eq_bool (w_res rfl) w_lit) rfl
theorem attach_call {l:OpenLaw}{n:Nat}{q:Program}{loose:List Str}{XP:(Str->Option Value)->Heap->Prop}{YP:World->Heap->Prop}{d:DefRec}
  (hn:l.most=some n) (hdf:d.params.defaults=[])
  (call:∀ (w:World) (s₀ s₁:Shared) (mg mb:Str->Option Value) (fa:Addr) (o:Obj) (pm cd doc:Value) (a:Addr) (vs:List Value) (ns:List Int),
   Ground q loose [] XP w s₀ mg mb s₁.heap->YP w s₁.heap->
   s₁.heap.get? fa=some o->o.data=.func (docDef d.name d.params d.body d.scope pm cd doc)->s₁.heap.CodeRec cd d.name->mg d.name=some (.ref fa)->
   s₁.heap.get? a=some { cls:=.type "list",data:=.seq vs.toArray }->IntsAre vs ns->ns.length<=n->s₁.gens=#[]->
   codeAny (model l.prog w) callerA (.call (.ref fa) ⟨[.ref a],[]⟩) (λ r s'=>r=.ok (.ret (.bool true))/\OldK s₁.heap s'.heap/\s'.os=s₁.os/\AllBare s'.gens) s₁) :
  WalkO q loose XP YP l.row.toRowW d [] (λ f vs=>PySem.call f vs):=by
 intro w s₀ s₁ mg mb G Y fa o pm cd doc dV kV ho hd hcd hD hmg hg args vals as hpre hlay hrd hwl hlo
 obtain rfl:dV=.none:=Dflts.none hD hdf
 obtain rfl:kV=.none:=Dflts.noKw hD
 obtain⟨a,vs,ns,rfl,rfl,hobj,hints,hlen⟩:=script_of hn hpre hwl
 refine enter_call (codeAny_mono (call w s₀ s₁ mg mb fa o pm cd doc a vs ns G Y ho (fd_plain hd) hcd hmg hobj hints hlen hg) λ r s' hq=>?_)
 obtain⟨rfl,h2,h3,h4⟩:=hq
 exact⟨.inl ⟨.bool true,.bool true,[],rfl,λ _=>rfl,.bool true,post_true l _,λ _=>⟨List.Pairwise.nil,λ _ hm=>(nomatch hm)⟩⟩,h2,h3,h4⟩
section
variable {prog:Program}{w:World}{A:Around}{E:Value->Shared->Prop}{s:Shared}{K:Frag}
end
end Att
namespace L2
open PySem PySem.Spec PyProof.Rows
theorem vals_ints:∀ {vs:List Value}{ns:List Int},IntsAre vs ns->Vals (ns.map V.int) vs
 | _,_,.nil=>.nil
 | _,_,.cons n t h=>.cons ⟨t,rfl⟩ (vals_ints h)
def Only (H:Hp):Prop:=∀ b,H b=none∨∃ o xs,H b=some (.frz o (.lst xs))
theorem law_call {P:Program}{w:World}{K:PySem.W.Frag}{mg mb:Str->Option Value}{CX:CXT}{k:Nat}{fa a:Addr}{fd:FuncData}{x:Str}{sp:Sp}{s₁:Shared}{vs:List Value}{ns:List Int}
  (KX:K.In s₁.heap) (hns:s₁.heap.Ns mainGlobals mg) (hb:s₁.heap.Ns builtinsNs mb) (hbb:∀ x:Str,x≠"__name__"->mb x=bootBuiltins x) (hlim:s₁.heap.NoLimit) (hdg:s₁.heap.NoDigits) (hbm:∃ bm ob,mg "__builtins__"=some (.ref bm)/\bm≠builtinsNs/\s₁.heap.get? bm=some ob/\ob.cls=.type "module"/\ob.dict=some builtinsNs/\ob.data=.plain) (hg:s₁.gens=#[])
  (ha:s₁.heap.get? a=some { cls:=.type "list",data:=.seq vs.toArray }) (hi:IntsAre vs ns) (hl:ns.length<=sizeLine) (hr:Room k callerA)
  (F:∀ base:Heap,K.In base->base.Ns mainGlobals mg->FnOk P w K mg base CX k fa fd [x] sp) (hbind:∀ (s:Shared) (u:Value),BindsTo s fd ⟨[u],[]⟩ [(x,u)])
  (hsp:∀ H:Hp,Only H->SqL K H a (ns.map V.int)->sp [.ref a] H (λ v _=>v=.bl true) λ _ _ _=>False)
  (hCX:∀ H e s',CX [] H s₁ (λ _ _ _=>False) e s'->False) :
  codeAny (model P w) callerA (.call (.ref fa) ⟨[.ref a],[]⟩) (λ r s'=>r=.ok (.ret (.bool true))/\OldK s₁.heap s'.heap/\s'.os=s₁.os/\AllBare s'.gens) s₁:=by
 have rv:=vals_ints hi
 have lenV:=hi.length
 have core:∀ H:Hp,Only H->SqL K H a (ns.map V.int)->HOk P w H s₁.heap->(∀ b,H b≠none->b=a)->(H a≠none->K.lookup a=none)->
   codeAny (model P w) callerA (.call (.ref fa) ⟨[.ref a],[]⟩) (λ r s'=>r=.ok (.ret (.bool true))/\OldK s₁.heap s'.heap/\s'.os=s₁.os/\AllBare s'.gens) s₁:=by
  intro H hO hS hok hA hK
  have base_of:∀ {b:Addr}{o:Obj},s₁.heap.get? b=some o->H b=none->(hidT s₁.heap H).get? b=some o:=λ e n=>hidT_get e n
  have noA:∀ {b:Addr}{o:Obj}{es:Array DictEntry}{ep:Nat},s₁.heap.get? b=some o->o.data=.dict es ep->H b=none:=λ {b o es ep} e d=>by
   cases q:H b with
   | none=>rfl
   | some u=>
    have e':b=a:=hA b (by rw[q];simp)
    subst e'
    rw[ha]at e;cases e
    have d':Data.seq vs.toArray _=Data.dict es ep:=d
    cases d'
  have nsK:∀ {b:Addr}{m:Str->Option Value},s₁.heap.Ns b m->(hidT s₁.heap H).Ns b m:=λ {b m} ⟨o,es,ep,e,d,r⟩=>⟨o,es,ep,base_of e (noA e d),d,r⟩
  have hKb:K.In (hidT s₁.heap H):=λ b o e=>base_of (KX b o e) (by
   cases q:H b with
   | none=>rfl
   | some u=>
    have e':b=a:=hA b (by rw[q];simp)
    subst e'
    rw[hK (by rw[q];simp)]at e;cases e)
  have hM:Mod K mg (hidT s₁.heap H):=⟨hKb,nsK hns,⟨mb,nsK hb,hbb⟩,let ⟨mc,h1,h2⟩:=hlim;⟨mc,nsK h1,h2⟩,let ⟨mc,h1,h2⟩:=hdg;⟨mc,nsK h1,h2⟩,
   let ⟨bm,ob,b1,b2,b3,b4,b5,b6⟩:=hbm;⟨bm,ob,b1,b2,base_of b3 (by
    cases q:H bm with
    | none=>rfl
    | some u=>
     have e':bm=a:=hA bm (by rw[q];simp)
     subst e'
     rw[ha]at b3;cases b3;cases b6),b4,b5,b6⟩⟩
  have e0:Env0 P w K mg (hidT s₁.heap H) callerA [] s₁ H:=⟨rfl,hM,λ b o e=>of_hidT e,Nat.le_of_eq (hidT_size _ _),trivial,λ b hb=>absurd (show b∈([]:List Addr) from hb) (by simp),hok,.of_eq hg⟩
  refine codeAny_mono ((F _ hKb (nsK hns)).run callerA [] s₁ H ⟨[.ref a],[]⟩ [.ref a] [.ref a] _ _ hr e0 (hbind s₁ (.ref a)) (.cons rfl .nil) (hsp H hO hS)) λ r s' h=>?_
  cases r with
  | error e=>exact(hCX H e s' h).elim
  | ok fl=>
   cases fl with
   | next=>exact False.elim h
   | brk=>exact False.elim h
   | cont=>exact False.elim h
   | ret u=>
    obtain⟨v,H',os,bare,un,hok',r',q⟩:=h
    have q':v=.bl true:=q
    subst q'
    obtain rfl:u=Value.bool true:=r'
    refine⟨rfl,OldK.of_keep λ b o e=>?_,os,bare⟩
    cases q:H b with
    | none=>exact un.keep b o e q (by intro z;exact absurd (show b∈([]:List Addr) from z) (by simp)) (by simp)
    | some u=>
     rcases hO b with z|⟨ob,xs,z⟩
     ·rw[q]at z;cases z
     ·have z2:=un.frzs b ob _ z
      obtain⟨e1,_⟩:=hok b _ z
      obtain⟨e2,_⟩:=hok' b _ z2
      rw[e]at e1;cases e1
      exact e2
 cases hk:K.lookup a with
 | some o=>
  have e:=KX a o hk
  rw[ha]at e
  cases e
  refine core (λ _=>none) (λ _=>.inl rfl) (.inr ⟨_,vs.toArray,_,hk,rfl,rfl,rfl,by rw[List.size_toArray,lenV];exact hl,by simpa using rv⟩) (λ b u z=>by have z':(none:Option HO)=some u:=z;cases z') (λ b z=>absurd rfl z) λ z=>absurd rfl z
 | none=>
  refine core (λ b=>if b=a then some (.frz { cls:=.type "list",data:=.seq vs.toArray } (.lst (ns.map V.int))) else none) (λ b=>?_) (.inl (.inr ⟨{ cls:=.type "list",data:=.seq vs.toArray },if_pos rfl⟩)) (λ b u z=>?_) (λ b z=>?_) λ _=>hk
  ·by_cases hb:b=a
   ·exact .inr ⟨_,_,if_pos hb⟩
   ·exact .inl (if_neg hb)
  ·by_cases hb:b=a
   ·have z':=(if_pos hb).symm.trans z
    cases z'
    subst hb
    exact⟨ha,by rw[List.length_map];exact hl,vs,_,rv,ha⟩
   ·have z':=(if_neg hb).symm.trans z
    cases z'
  ·by_cases hb:b=a
   ·exact hb
   ·exact absurd (if_neg hb) z
end L2
namespace L2
open PySem PySem.Spec PyProof.Rows
theorem walk_of {l:PySem.W.OpenLaw}{n k:Nat}{q:Program}{loose:List Str}{XP:(Str->Option Value)->Heap->Prop}{YP:World->Heap->Prop}{d:DefRec}{K:Params->PySem.W.Frag}{CX:World->CXT}{sp:World->Sp}{x:Str}
  (hn:l.most=some n) (hn2:n<=sizeLine) (hdf:d.params.defaults=[]) (hr:Room k callerA)
  (hY:∀ (w:World) (h:Heap),YP w h->(K w.params).In h)
  (F:∀ (w:World) (mg:Str->Option Value) (fa:Addr) (h:Heap),(K w.params).In h->h.Ns mainGlobals mg->mg d.name=some (.ref fa)->
   ∃ fd:FuncData,(∀ (s:Shared) (u:Value),BindsTo s fd ⟨[u],[]⟩ [(x,u)])/\
    ∀ base:Heap,(K w.params).In base->base.Ns mainGlobals mg->FnOk l.prog w (K w.params) mg base (CX w) k fa fd [x] (sp w))
  (hsp:∀ (w:World) (H:Hp) (a:Addr) (ns:List Int),ns.length<=n->Only H->SqL (K w.params) H a (ns.map V.int)->sp w [.ref a] H (λ v _=>v=.bl true) λ _ _ _=>False)
  (hCX:∀ (w:World) (H:Hp) (s:Shared) (e:Value) (s':Shared),CX w [] H s (λ _ _ _=>False) e s'->False) :
  PySem.W.WalkO q loose XP YP l.row.toRowW d [] (λ f vs=>PySem.call f vs):=by
 refine Att.attach_call hn hdf λ w s₀ s₁ mg mb fa o pm cd doc a vs ns G Y ho hd hcd hmg hobj hints hlen hg=>?_
 have KX:=hY w _ Y
 obtain⟨fd,hb,hF⟩:=F w mg fa _ KX G.T.g hmg
 exact law_call KX G.T.g G.T.b G.T.builtins G.T.nolimit G.T.nodigits G.T.bmain hg hobj hints (Nat.le_trans hlen hn2) hr hF hb (λ H hO hS=>hsp w H a ns hlen hO hS) λ H e s'=>hCX w H s₁ e s'
end L2
namespace L2
open PySem PySem.Spec PyProof.Rows
def defArgs (s:Stmt):Arguments:=match s with
 | .FunctionDef _ a _ _ _ _ _ _ _ _=>a
 | _=>{ posonlyargs:=[],args:=[],vararg:=none,kwonlyargs:=[],kw_defaults:=[],kwarg:=none,defaults:=[] }
def defBody (s:Stmt):List Stmt:=match s with
 | .FunctionDef _ _ b _ _ _ _ _ _ _=>b
 | _=>[]
def defScope (s:Stmt):Scope:=match s with
 | .FunctionDef _ _ _ _ _ _ sc _ _ _=>sc
 | _=>{ kind:=.function,names:=[],isGenerator:=false,isCoroutine:=false }
abbrev CX0:CXT:=λ _ _ _ _ _ _=>False
abbrev E0:XK:=λ _ _ _=>False
theorem pass0 {X:Cx}:Passes CX0 X E0:=λ _ _ _ _ _ _ _ h=>h.elim
structure Fun (K:PySem.W.Frag)(x qual:Str)(st:Stmt)(f:Addr)(fd:FuncData):Prop where
 ex:∃ (oc:Value) (od:Option Addr) (kV doc pm:Value) (an:Option Addr) (cdv ct:Value) (osl:Array (Option Value)),
  fd=PySem.W.fnOf x qual (defArgs st) (defBody st) (defScope st) .none kV doc pm an cdv ct/\K.lookup f=some ⟨oc,od,.func fd,osl⟩/\PySem.W.codeIn K cdv qual=true
 kp:PySem.W.keepIn K (.ref f)=true
section
variable {P:Program}{w:World}{K:PySem.W.Frag}{mg:Str->Option Value}{base:Heap}
theorem Fun.ok {x qual:Str}{st:Stmt}{f:Addr}{fd:FuncData}{N ps:List Str}{k:Nat}{sp:Sp}(F:Fun K x qual st f fd)(S:FnScope N ps (defScope st)) (len:∀ vs H Q E,sp vs H Q E->vs.length=ps.length)
  (hbody:∀ (cdv:Value) (A:Around) (outer:List Env) (s:Shared) (H:Hp) (vs:List V) (Q:VK) (E:XK),Room k (A.deeper (envOfC qual (defScope st) s.heap.objs.size f cdv))->sp vs H Q E->
   ∃ t,PSs (cxOf CX0 P w K mg base N qual (defScope st) f cdv A outer s H E).nox (defBody st) t/\t { nx:=λ _ H'=>Q .non H',rt:=Q } (start N vs) H):FnOk P w K mg base CX0 (k+1) f fd ps sp:=by
 obtain⟨oc,od,kV,doc,pm,an,cdv,ct,osl,rfl,lk,hcd⟩:=F.ex
 refine fn_of lk hcd S len λ A outer s H vs Q E hr hsp=>?_
 obtain⟨t,h,q⟩:=hbody cdv A outer s H vs Q E hr hsp
 exact⟨t,h.nox,q⟩
theorem Fun.binds {x qual:Str}{st:Stmt}{f:Addr}{fd:FuncData}{ps:List Str}(F:Fun K x qual st f fd)
  (h:∀ (kV doc pm:Value) (an:Option Addr) (cdv ct:Value) (us:List Value),us.length=ps.length->bindArgs (PySem.W.fnOf x qual (defArgs st) (defBody st) (defScope st) .none kV doc pm an cdv ct) ⟨us,[]⟩=pure (ps.zip us)):Binds K fd ps []:=by
 obtain⟨oc,od,kV,doc,pm,an,cdv,ct,osl,rfl,lk,hcd⟩:=F.ex
 exact .all (h kV doc pm an cdv ct)
theorem fun_mk {x qual:Str}{st:Stmt}{f:Addr}{oc:Value}{od an:Option Addr}{osl:Array (Option Value)}{kV doc pm cdv ct:Value}(l:K.lookup f=some ⟨oc,od,.func (PySem.W.fnOf x qual (defArgs st) (defBody st) (defScope st) .none kV doc pm an cdv ct),osl⟩)
  (c:PySem.W.codeIn K cdv qual=true) (k:PySem.W.keepIn K (.ref f)=true):Fun K x qual st f (PySem.W.fnOf x qual (defArgs st) (defBody st) (defScope st) .none kV doc pm an cdv ct):=⟨⟨oc,od,kV,doc,pm,an,cdv,ct,osl,rfl,l,c⟩,k⟩
end
theorem hu_of {A:Around}{k:Nat}(hr:Room k A):A.units+1 < cLine:=Nat.lt_of_le_of_lt (Nat.add_le_add_left (by decide:1<=64) _) hr.units
theorem small1000 {n:Nat}(h:n<=1000):n < sizeLine:=Nat.lt_of_le_of_lt h (by decide)
section
variable {X:Cx}
theorem pv (i:Nat){x:Str}{pos:Pos}(hN:X.N[i]? = some x:=by rfl)(hv:Vis X.env.scope x:=by first|exact Or.inl rfl|exact Or.inr (Or.inl rfl)|exact Or.inr (Or.inr rfl)) (hd:(x == ("__debug__":Str))=false:=by decide)
  (hcd:(x == ("__classdict__":Str))=false:=by decide):PE X (.Name x pos) (tVar i):=pe_var hN hv hd hcd
end
section
variable {κ:Type} [DecidableEq κ]
end
end L2
set_option maxHeartbeats 4000000
namespace L2
open PySem PySem.Spec PyProof.Rows
def SrcOk (X:Cx)(scope:Scope):List (Str × Option Nat)->Prop
 | []=>True
 | (_,none) :: r=>SrcOk X scope r
 | (x,some j) :: r=>(X.N[j]? = some x/\scope.names.lookup x=some .free/\(X.env.kindOf x=some .cell∨X.env.kindOf x=some .free))/\SrcOk X scope r
def srcV (l:List (Str × Option Nat)) (σ:St):St:=l.map λ p=>p.2.bind λ j=>(σ[j]?).join
theorem SrcOk.get {X:Cx}{scope:Scope}:∀ {l:List (Str × Option Nat)},SrcOk X scope l->∀ {i:Nat}{x:Str}{j:Nat},l[i]? = some (x,some j)->
  X.N[j]? = some x/\scope.names.lookup x=some .free/\(X.env.kindOf x=some .cell∨X.env.kindOf x=some .free)
 | [],_,i,x,j,e=>by simp at e
 | (y,none) :: r,h,0,x,j,e=>by simp at e
 | (y,none) :: r,h,i+1,x,j,e=>SrcOk.get (l:=r) h (i:=i) (by simpa using e)
 | (y,some k) :: r,h,0,x,j,e=>by
  simp at e
  obtain⟨rfl,rfl⟩:=e
  exact h.1
 | (y,some k) :: r,h,i+1,x,j,e=>SrcOk.get (l:=r) h.2 (i:=i) (by simpa using e)
theorem closure_ok (env:Env):∀ (names:List (Str × NameKind)) (cs0:List (Str × Addr)),(∀ x∈names,x.2=.free->∃ c,env.cells.lookup x.1=some c)->
  ∃ cl,(forIn names cs0 (λ(x:Str × NameKind) (cs:List (Str × Addr))=>(if x.2 == .free then do let a <-cellOf env x.1;pure (ForInStep.yield ((x.1,a) :: cs)) else pure (ForInStep.yield cs):Sem (ForInStep (List (Str × Addr))))))=pure cl/\
   (∀ y c,cl.lookup y=some c->env.cells.lookup y=some c∨cs0.lookup y=some c)/\(∀ x∈names,x.2=.free->∃ c,cl.lookup x.1=some c )/\(∀ y,(∃ c,cs0.lookup y=some c)->∃ c,cl.lookup y=some c)
 | [],cs0,h=>⟨cs0,rfl,λ _ _ e=>.inr e,λ _ hx=>(nomatch hx),λ _ e=>e⟩
 | (n,k) :: r,cs0,h=>by
  by_cases hk:k=.free
  ·subst hk
   obtain⟨c,ec⟩:=h (n,.free) List.mem_cons_self rfl
   obtain⟨cl,e1,e2,e3,e4⟩:=closure_ok env r ((n,c) :: cs0) λ x hx=>h x (List.mem_cons_of_mem _ hx)
   have hc:cellOf env n=pure c:=by
    unfold cellOf
    have ec':env.cells.lookup n=some c:=ec
    rw[ec']
   have own:∃ c',cl.lookup n=some c':=e4 n ⟨c,by simp[List.lookup_cons]⟩
   refine⟨cl,?_,λ y d e=>?_,λ x hx hf=>?_,λ y ⟨d,e⟩=>?_⟩
   ·rw[List.forIn_cons]
    simp only[beq_self_eq_true,if_true,hc,pure_bind]
    exact e1
   ·rcases e2 y d e with z|z
    ·exact .inl z
    ·rw[List.lookup_cons]at z
     split at z
     ·rename_i hy
      have:y=n:=by simpa using hy
      subst this
      cases z
      exact .inl ec
     ·exact .inr z
   ·rcases List.mem_cons.mp hx with rfl|hx
    ·exact own
    ·exact e3 x hx hf
   ·refine e4 y ?_
    rw[List.lookup_cons]
    split
    ·exact⟨_,rfl⟩
    ·exact⟨d,e⟩
  ·obtain⟨cl,e1,e2,e3,e4⟩:=closure_ok env r cs0 λ x hx=>h x (List.mem_cons_of_mem _ hx)
   have hb:(k == NameKind.free)=false:=by simpa using hk
   refine⟨cl,?_,e2,λ x hx hf=>?_,e4⟩
   ·rw[List.forIn_cons]
    simp only[hb,Bool.false_eq_true,if_false,pure_bind]
    exact e1
   ·rcases List.mem_cons.mp hx with rfl|hx
    ·exact absurd hf hk
    ·exact e3 x hx hf
theorem closureFor_ok {scope:Scope}{env:Env}(h:∀ x∈scope.names,x.2=.free->∃ c,env.cells.lookup x.1=some c) :
  ∃ cl,closureFor scope env=pure cl/\(∀ y c,cl.lookup y=some c->env.cells.lookup y=some c)/\∀ x∈scope.names,x.2=.free->∃ c,cl.lookup x.1=some c:=by
 obtain⟨cl,e1,e2,e3,_⟩:=closure_ok env scope.names [] h
 refine⟨cl,?_,λ y c e=>(e2 y c e).elim id λ z=>by simp at z,e3⟩
 unfold closureFor
 have e1':=e1
 simp only[bind_pure_comp]at e1' ⊢
 first
  | (rw[e1'];rfl)
  | (simp only[e1'];rfl)
  | (simpa using e1')
theorem lookup_relabel_free {env:Env}:∀ {names:List (Str × NameKind)}{x:Str},names.lookup x=some .free->
    ((names.map λ(n,k)=>if (k == NameKind.free && env.scope.kind == .function && env.kindOf n == some .cell) then (n,NameKind.cell) else (n,k)).lookup x=some .cell∨
     (names.map λ(n,k)=>if (k == NameKind.free && env.scope.kind == .function && env.kindOf n == some .cell) then (n,NameKind.cell) else (n,k)).lookup x=some .free)
  | [],_,h=>by simp at h
  | (n,k) :: r,x,h=>by
    have ih:=@lookup_relabel_free env r x
    show List.lookup x ((if (k == NameKind.free && env.scope.kind == .function && env.kindOf n == some .cell)=true then (n,NameKind.cell) else (n,k)) :: _)=_∨List.lookup x ((if (k == NameKind.free && env.scope.kind == .function && env.kindOf n == some .cell)=true then (n,NameKind.cell) else (n,k)) :: _)=_
    cases hx:x == n with
    | true=>
      simp only[List.lookup_cons,hx]at h
      cases h
      by_cases hc:(NameKind.free == NameKind.free && env.scope.kind == .function && env.kindOf n == some .cell)=true
      · rw[if_pos hc];left;simp[List.lookup_cons,hx]
      · rw[if_neg hc];right;simp[List.lookup_cons,hx]
    | false=>
      simp only[List.lookup_cons,hx]at h
      by_cases hc:(k == NameKind.free && env.scope.kind == .function && env.kindOf n == some .cell)=true
      · rw[if_pos hc];simp only[List.lookup_cons,hx];exact ih h
      · rw[if_neg hc];simp only[List.lookup_cons,hx];exact ih h
theorem relabel_back {env:Env}{x:Str}:∀ {names:List (Str × NameKind)},
    ((names.map λ(n,k)=>if (k == NameKind.free && env.scope.kind == .function && env.kindOf n == some .cell) then (n,NameKind.cell) else (n,k)).lookup x=some .cell∨
     (names.map λ(n,k)=>if (k == NameKind.free && env.scope.kind == .function && env.kindOf n == some .cell) then (n,NameKind.cell) else (n,k)).lookup x=some .free)->(x,NameKind.free)∈names∨names.lookup x=some .cell
  | [],h=>by simp at h
  | (n,k) :: r,h=>by
    have ih:=@relabel_back env x r
    simp only[List.map_cons]at h
    by_cases hb:(k == NameKind.free && env.scope.kind == .function && env.kindOf n == some .cell)=true
    · rw[if_pos hb]at h
      have hkf:k=.free:=by
        have:=(Bool.and_eq_true_iff.mp (Bool.and_eq_true_iff.mp hb).1).1
        simpa using this
      by_cases hx:x=n
      · rw[hx,hkf];exact .inl List.mem_cons_self
      · have hx':(x == n)=false:=by simpa using hx
        simp only[List.lookup_cons,hx']at h ⊢
        exact(ih h).imp (List.mem_cons_of_mem _) id
    · rw[if_neg hb]at h
      by_cases hx:x=n
      · have hx':(x == n)=true:=by simpa using hx
        simp only[List.lookup_cons,hx']at h ⊢
        rcases h with h|h
        · exact .inr h
        · rw[hx,Option.some.inj h];exact .inl List.mem_cons_self
      · have hx':(x == n)=false:=by simpa using hx
        simp only[List.lookup_cons,hx']at h ⊢
        exact(ih h).imp (List.mem_cons_of_mem _) id
theorem cellsFrom_app:∀ (names:List (Str × NameKind)) (n:Nat)(acc more:List (Str × Addr)),cellsFrom n names (acc++more)=cellsFrom n names acc++more
 | [],_,_,_=>rfl
 | (x,k) :: r,n,acc,more=>by
  unfold cellsFrom
  split
  ·exact cellsFrom_app r (n+1) ((x,n) :: acc) more
  ·exact cellsFrom_app r n acc more
theorem cellsFrom_mem:∀ (names:List (Str × NameKind)) (n:Nat)(acc:List (Str × Addr)) (x:Str)(c:Addr),(x,c)∈cellsFrom n names acc->(x,NameKind.cell)∈names∨(x,c)∈acc
 | [],_,_,_,_,h=>.inr h
 | (y,k) :: r,n,acc,x,c,h=>by
  unfold cellsFrom at h
  split at h
  ·rename_i hk
   have hk:k=.cell:=by simpa using hk
   rcases cellsFrom_mem r _ _ x c h with z|z
   ·exact .inl (List.mem_cons_of_mem _ z)
   ·rcases List.mem_cons.mp z with z|z
    ·cases z;rw[hk];exact .inl List.mem_cons_self
    ·exact .inr z
  ·exact(cellsFrom_mem r _ _ x c h).imp (List.mem_cons_of_mem _) id
theorem newFunctionEnv_comp {M:Model}{A:Around}{E:Value->Shared->Prop}{s:Shared}{scope:Scope}{globals:Addr}{closure:List (Str × Addr)}{qual:Str}{outer:Env}{Q:Env->Shared->Prop}
  (hQ:Q (newEnv scope s.heap.objs.size globals (cellsFrom (s.heap.objs.size+1) scope.names closure) qual none .none (some outer) 0) { s with heap:=pushCells (s.heap.push { cls:=.type "dict",data:=.dict #[] }) scope.names }) :
  wpAny M A (newFunctionEnv scope globals closure [] qual none .none (some outer)) Q E s:=by
 simp only[newFunctionEnv,Option.isSome_some,if_true]
 refine wpAny_bind (wpAny_alloc ?_)
 refine wpAny_bind (wpAny_layCells _ (λ name kind cells=>by cases hkc:kind == NameKind.cell<;>simp[hkc]) _ _ _ _ ?_)
 rw[show({ s with heap:=s.heap.push { cls:=.type "dict",data:=.dict #[] } }:Shared).heap.objs.size=s.heap.objs.size+1 from Heap.size_push ..]
 exact wpAny_bind (wpAny_pure (wpAny_pure hQ))
def cxComp (X:Cx)(l:List (Str × Option Nat)) (scope:Scope)(cl:List (Str × Addr)) (C:Addr)(fp:List Addr)(s3:Shared)(H3:Hp):Cx:=
 { X with N:=l.map (·.1),s₀:=s3,H₀:=H3,env:=compEnvC scope cl C X.env,outer:=X.stack,ex:=fp,fn:=λ x=>scope.names.lookup x == some .cell,pn:=[],xe:=λ _ _=>False }
def PIf (X:Cx)(ifs:List Expr)(t:TT):Prop:=
 ∀ (pins:List (Addr × Obj)) (s:Shared) (σ:St) (H:Hp) (Q:Bool->Hp->Prop),Inv X pins σ H s->t σ H Q->
  wpAny (model X.prog X.w) X.A (forIn ifs true λ c r=>if r=true then do let ok <-isTrue c X.env (eval c X.env);pure (ForInStep.yield ok) else pure (ForInStep.yield r)) (TP X pins σ Q) X.xe s
def tYes:TT:=λ _ H Q=>Q true H
theorem pif_nil {X:Cx}:PIf X [] tYes:=λ _ _ _ H _ I h=>wpAny_tests_nil ⟨H,I,h⟩
theorem pif_one {X:Cx}{c:Expr}{t:TT}(h:PT X c t):PIf X [c] t:=λ pins s σ H Q I hw=>wpAny_tests_one (h pins s σ H Q I hw)
def TurnIs (e tg:Expr)(ifs:List Expr)(p:Pos)(d:Nat)(body:Value->Env->Sem Unit):Prop:=
 ∀ it acc env,compTurn e d it acc env=(standAt p >>= λ _=>pyNext it >>= λ r=>match r with
  | none=>pure (.done .next)
  | some v=>letOwnedTupleGo tg it v >>= λ _=>assign tg env v >>= λ _=>(forIn ifs true λ c r=>if r=true then do let ok <-isTrue c env (eval c env);pure (ForInStep.yield ok) else pure (ForInStep.yield r)) >>= λ ok=>
   if ok=true then body acc env >>= λ _=>again (.compLoop e d it acc env) else again (.compLoop e d it acc env))
def LorS (e:Expr):Prop:=(∃ a b c d,e=.ListComp a b c d)∨∃ a b c d,e=.SetComp a b c d
theorem compLoop_any {prog:Program}{w:World}{A:Around}{R:Result->Shared->Prop}{s:Shared}{e tg:Expr}{ifs:List Expr}{p:Pos}{d:Nat}{body:Value->Env->Sem Unit}(hn:LorS e)(ht:TurnIs e tg ifs p d body){it acc:Value}{env:Env}(I:Nat->Shared->Prop)
  (turn:∀ n s,I n s->wpAny (model prog w) A (pyNext it) (λ r s₁=>match r with
   | none=>R (.ok .next) s₁
   | some v=>wpAny (model prog w) A (letOwnedTupleGo tg it v) (λ _ s₁'=>wpAny (model prog w) A (assign tg env v) (λ _ s₂=>
     wpAny (model prog w) A (forIn ifs true λ c r=>if r=true then do let ok <-isTrue c env (eval c env);pure (ForInStep.yield ok) else pure (ForInStep.yield r)) (λ ok s₃=>
      if ok=true then wpAny (model prog w) A (body acc env) (λ _ s₅=>∃ m,m < n/\I m s₅) (λ _ _=>False) s₃
      else ∃ m,m < n/\I m s₃) (λ _ _=>False) s₂) (λ _ _=>False) s₁') (λ _ _=>False) s₁) (λ _ _=>False) s)
  (n:Nat) (h:I n s) :
  codeAny (model prog w) A (.compLoop e d it acc env) R s:=by
 have no:∀ {α:Type}{t:Sem α}{Q:α->Shared->Prop}{E:Value->Shared->Prop}{s:Shared},wpAny (model prog w) A t Q (λ _ _=>False) s->wpAny (model prog w) A t Q E s:=λ h=>wpAny_mono h (λ _ _ q=>q) λ _ _ f=>f.elim
 refine codeAny_loop rfl I (λ n s hI=>?_) n h
 have hd:(model prog w).den (.compLoop e d it acc env)=(compTurn e d it acc env).onRaise (λ x=>do noteFrame x env;theTreesLotGoes x):=by rcases hn with⟨_,_,_,_,rfl⟩|⟨_,_,_,_,rfl⟩<;>rfl
 have hu:A.under (.compLoop e d it acc env)=A:=by rcases hn with⟨_,_,_,_,rfl⟩|⟨_,_,_,_,rfl⟩<;>rfl
 rw[hd,hu]
 refine wpAny_noted ?_
 rw[ht]
 refine wpAny_bind (wpAny_standAt (wpAny_bind (thn (no (turn n s hI)) (λ r s₁ h₁=>?_))))
 cases r with
 | none=>exact wpAny_pure h₁
 | some v=>
  refine wpAny_bind (thn (no h₁) λ _ s1' h1'=>?_)
  refine wpAny_bind (thn (no h1') (λ _ s₂ h₂=>wpAny_bind (thn (no h₂) (λ ok s₃ h₃=>?_))))
  cases ok with
  | false=>exact wpAny_pure ⟨rfl,h₃⟩
  | true=>exact wpAny_bind (thn (no h₃) (λ _ s₅ h₅=>wpAny_pure ⟨rfl,h₅⟩))
theorem compStart_any {prog:Program}{w:World}{A:Around}{R:Result->Shared->Prop}{s:Shared}{e:Expr}{d:Nat}{gc:Comprehension}{it acc:Value}{env:Env}(hn:LorS e)(hg:(clausesOf e)[d]? = some gc) (ha:gc.is_async=0)
  (h0:codeAny (model prog w) A (.compLoop e d it acc env) R s)
  (h:wpAny (model prog w) A (pyIter it) (λ it' s'=>codeAny (model prog w) A (.compLoop e d it' acc env) R s') (λ _ _=>False) s) :
  codeAny (model prog w) A (.compStart e d it acc env) R s:=by
 refine codeAny_of_tree ?_
 have hd:(model prog w).den (.compStart e d it acc env)=(compStart e d it acc env).onRaise (λ x=>do noteFrame x env;standAt theWindowsPlace):=by rcases hn with⟨_,_,_,_,rfl⟩|⟨_,_,_,_,rfl⟩<;>rfl
 have hu:A.under (.compStart e d it acc env)=A:=by rcases hn with⟨_,_,_,_,rfl⟩|⟨_,_,_,_,rfl⟩<;>rfl
 rw[hd,hu]
 refine wpAny_notedAt ?_
 unfold compStart
 rw[hg]
 have e1:(some gc).elim false (λ x=>x.is_async != 0)=false:=by show(gc.is_async != 0)=false;rw[ha];rfl
 rw[e1]
 show wpAny _ _ (ask >>= _) _ _ s
 refine wpAny_bind (wpAny_askSetting (wpAny_ite ?_))
 split
 ·first
   | exact wpAny_bind (wpAny_pure (wpAny_pure (And.intro rfl h0)))
   | exact wpAny_pure (And.intro rfl h0)
 ·exact wpAny_bind (wpAny_rule (wpAny_bind (wpAny_standAt (wpAny_bind (wpAny_mono h (λ it' s' h'=>wpAny_pure (And.intro rfl h')) λ _ _ x=>x.elim)))))
def CompW (l:List (Str × Option Nat)) (g:TG)(tt:TT)(te:TE)(J:It)(σ:St)(H1:Hp)(Q:Addr->Hp->Prop):Prop:=
 ∀ D,H1 D=none->∃ W:Nat->Nat->List V->St->Hp->Prop,(∃ m,W 0 m [] (srcV l σ) (upd H1 D (.lst [])))/\∀ i m ys σ1 H2,W i m ys σ1 H2->
  (J.stop i H2/\Q D H2)∨(J.go i H2/\∀ x H3,J.yld i H2 x H3->g x σ1 H3 λ σ2 H4=>tt σ2 H4 λ b H5=>
   if b=true then te σ2 H5 λ v H6=>H6 D=some (.lst ys)/\ys.length < sizeLine/\∃ m',m' < m/\W (i+1) m' (ys++[v]) σ2 (upd H6 D (.lst (ys++[v]))) else ∃ m',m' < m/\W (i+1) m' ys σ2 H5)
def tCompB (l:List (Str × Option Nat)) (wi:TI)(g:TG)(tt:TT)(te:TE)(σ:St)(H:Hp)(Q:Addr->Hp->Prop):Prop:=
 wi σ H λ J H1=>CompW l g tt te J σ H1 Q
theorem comp_any {α:Type}{X:Cx}{e tg:Expr}{ifs:List Expr}{scope:Scope}{cl:List (Str × Addr)}{l:List (Str × Option Nat)}{g:TG}{tt:TT}{body:Value->Env->Sem Unit}{p:Pos}{gc:Comprehension}{D:Addr}
  (hn:LorS e) (hturn:TurnIs e tg ifs p 0 body) (hgc:(clausesOf e)[0]? = some gc) (has:gc.is_async=0)
  (hcl1:∀ y c,cl.lookup y=some c->X.env.cells.lookup y=some c) (hcl2:∀ x∈scope.names,x.2=.free->∃ c,cl.lookup x.1=some c)
  (hkind:scope.kind=.function) (hcell:∀ y∈scope.names,y.2=.cell->scope.names.lookup y.1=some .cell) (hcalm:X.calm=true) (hsrc:SrcOk X scope l)
  (hg:∀ cl C fp s3 H3,PG (cxComp X l scope cl C fp s3 H3) tg g) (ht:∀ cl C fp s3 H3,PIf (cxComp X l scope cl C fp s3 H3) ifs tt)
  {pins:List (Addr × Obj)}{σ:St}{H3:Hp}{s3:Shared}{it:Addr}{fp:List Addr}{tn:Nat->Heap->Prop}{J:It}{Q:Hp->Prop}{RR:Addr->Result->Shared->Prop}{E:Value->Shared->Prop}
  {W:Nat->Nat->α->St->Hp->Prop}{B:Nat->Nat->α->St->Hp->Prop}{m0:Nat}{y0:α}
  (hb:∀ cl C fp s3 H3 pins s i m ys σ H,Inv (cxComp X l scope cl C fp s3 H3) pins σ H s->B i m ys σ H->
   wpAny (model X.prog X.w) X.A (body (.ref D) (compEnvC scope cl C X.env)) (λ _ s'=>∃ m' ys' σ' H',m' < m/\Inv (cxComp X l scope cl C fp s3 H3) pins σ' H' s'/\W (i+1) m' ys' σ' H') (λ _ _=>False) s)
  (I3:Inv X pins σ H3 s3) (T:Turn X.prog X.w X.K tg J fp it tn) (st3:tn 0 s3.heap) (hfp3:∀ b∈fp,FpOk X pins H3 b)
  (w0:W 0 m0 y0 (srcV l σ) H3)
  (turn:∀ i m ys σ1 H2,W i m ys σ1 H2->(J.stop i H2/\Q H2)∨(J.go i H2/\∀ x H3,J.yld i H2 x H3->g x σ1 H3 λ σ2 H4=>tt σ2 H4 λ b H5=>if b=true then B i m ys σ2 H5 else ∃ m',m' < m/\W (i+1) m' ys σ2 H5))
  (hRR:∀ C (s':Shared) (H':Hp),Q H'->(∃ m,s'.heap.Ns C m)->Inv X pins σ H' s'->FpOk X pins H' C->RR C (.ok .next) s') :
  wpAny (model X.prog X.w) X.A (newFunctionEnv scope X.env.globals cl [] X.env.qual none .none (some X.env)) (λ cenv s₄=>
   codeAny (model X.prog X.w) X.A (.compStart e 0 (.ref it) (.ref D) { cenv with scope:=relabel scope X.env }) (RR cenv.locals) s₄) E s3:=by
 refine newFunctionEnv_comp ?_
 have eC:(newEnv scope s3.heap.objs.size X.env.globals (cellsFrom (s3.heap.objs.size+1) scope.names cl) X.env.qual none Value.none (some X.env) 0).locals=s3.heap.objs.size:=rfl
 have cok:=cellsFrom_ok scope.names (s3.heap.push { cls:=.type "dict",data:=.dict #[] }) (s3.heap.objs.size+1) [] ⟨λ _ _ hm=>(nomatch hm),List.Pairwise.nil⟩ (by rw[Heap.size_push];exact Nat.le_refl _)
 rw[Heap.size_push]at cok
 have ecs:cellsFrom (s3.heap.objs.size+1) scope.names cl=cellsFrom (s3.heap.objs.size+1) scope.names []++cl:=cellsFrom_app scope.names _ [] cl
 have hns:(pushCells (s3.heap.push { cls:=.type "dict",data:=.dict #[] }) scope.names).Ns s3.heap.objs.size (λ _=>none):=(Heap.Ns.new s3.heap (.type "dict")).keeps (pushCells_keeps _ _)
 have old:∀ b o,s3.heap.get? b=some o->(pushCells (s3.heap.push { cls:=.type "dict",data:=.dict #[] }) scope.names).get? b=some o:=λ b o e=>pushCells_keeps _ _ b o (Heap.get?_push_of_some _ e)
 rw[ecs]at *
 have ownN:∀ x c,(cellsFrom (s3.heap.objs.size+1) scope.names []).lookup x=some c->scope.names.lookup x=some .cell:=λ x c e=>by
  rcases cellsFrom_mem _ _ _ _ _ (mem_of_lookup e) with z|z
  ·exact hcell _ z rfl
  ·exact nomatch z
 have ownS:∀ x,scope.names.lookup x=some .cell->∃ c,(cellsFrom (s3.heap.objs.size+1) scope.names []).lookup x=some c:=λ x e=>Option.isSome_iff_exists.mp (PySem.W.cellsFrom_some scope.names _ [] (.inl e))
 generalize hown:cellsFrom (s3.heap.objs.size+1) scope.names []=own at *
 generalize hh4:pushCells (s3.heap.push { cls:=.type "dict",data:=.dict #[] }) scope.names=h4 at *
 generalize hC:s3.heap.objs.size=C at *
 have eE:({ newEnv scope C X.env.globals (own++cl) X.env.qual none Value.none (some X.env) 0 with scope:=relabel scope X.env }:Env)=compEnvC scope (own++cl) C X.env:=rfl
 have cs_of:∀ x c,(own++cl).lookup x=some c->(own.lookup x=some c/\h4.IsCell c none/\C+1<=c)∨(own.lookup x=none/\cl.lookup x=some c):=λ x c e=>by
  rw[List.lookup_append]at e
  cases q:own.lookup x with
  | none=>rw[q]at e;exact .inr ⟨rfl,e⟩
  | some d=>rw[q]at e;cases e;exact .inl ⟨rfl,cok.empty x c (mem_of_lookup q)⟩
 have of_cl:∀ x c,scope.names.lookup x≠some .cell->cl.lookup x=some c->(own++cl).lookup x=some c:=λ x c n e=>by
  rw[List.lookup_append]
  cases q:own.lookup x with
  | none=>exact e
  | some d=>exact(n (ownN x d q)).elim
 have cltC:∀ y c,cl.lookup y=some c->c < C:=λ y c e=>by
  obtain⟨v,q⟩:=I3.cell y c (hcl1 y c e)
  have:=q.lt
  rw[hC]at this
  exact this
 have fpC:∀ b∈fp,b≠C:=λ b hb z=>by
  obtain⟨o,ho,_⟩:=T.obj _ _ st3 b hb
  exact absurd (Heap.lt_size ho) (by rw[z,hC];exact Nat.lt_irrefl _)
 have cellC:∀ y c,(own++cl).lookup y=some c->c≠C:=λ y c e z=>by
  rcases cs_of y c e with⟨_,_,q⟩|⟨_,q⟩
  ·rw[z]at q;exact absurd q (Nat.not_succ_le_self _)
  ·exact absurd (cltC y c q) (by rw[z];exact Nat.lt_irrefl _)
 have fpB:∀ b∈fp,b < C:=λ b hb=>by
  obtain⟨o,ho,_⟩:=T.obj _ _ st3 b hb
  rw[<-hC];exact Heap.lt_size ho
 have fpCs:∀ b∈fp,∀ x c,(own++cl).lookup x=some c->c≠b:=λ b hb x c e z=>by
  rcases cs_of x c e with⟨_,_,q⟩|⟨_,q⟩
  ·rw[z]at q;exact absurd (Nat.lt_of_lt_of_le (fpB b hb) (Nat.le_of_succ_le q)) (Nat.lt_irrefl _)
  ·exact(hfp3 b hb).2.2.2.2.1 x c (hcl1 x c q) z
 have H3C:H3 C=none:=by
  have:=I3.fresh
  rw[hC]at this
  exact this
 have OK:(cxComp X l scope (own++cl) C fp s3 H3).Ok:={
  mod:=I3.ok.mod
  kind:=hkind
  glob:=I3.ok.glob
  blt:=I3.ok.blt
  above:=Nat.le_of_eq hC
  inj:=λ x y c e1 e2=>by
   rcases cs_of x c e1 with⟨p1,_,p3⟩|⟨_,p1⟩<;>rcases cs_of y c e2 with⟨q1,_,q3⟩|⟨_,q1⟩
   ·exact name_of_addr cok.apart (mem_of_lookup p1) (mem_of_lookup q1)
   ·exact absurd (cltC y c q1) (Nat.not_lt.mpr (Nat.le_of_succ_le p3))
   ·exact absurd (cltC x c p1) (Nat.not_lt.mpr (Nat.le_of_succ_le q3))
   ·exact I3.ok.inj x y c (hcl1 x c p1) (hcl1 y c q1)
  has:=λ x hx=>by
   show ∃ c,(own++cl).lookup x=some c
   rw[List.lookup_append]
   cases q:own.lookup x with
   | some d=>exact⟨d,rfl⟩
   | none=>
    rcases relabel_back hx with z|z
    ·obtain⟨c,e⟩:=hcl2 (x,.free) z rfl
     exact⟨c,e⟩
    ·obtain⟨c,e⟩:=ownS x z
     rw[q]at e;cases e
  cab:=λ x c hf e=>by
   have hf:(scope.names.lookup x == some NameKind.cell)=true:=hf
   have hf:scope.names.lookup x=some .cell:=by simpa using hf
   obtain⟨d,ed⟩:=ownS x hf
   rcases cs_of x c e with⟨_,_,q⟩|⟨q,_⟩
   ·show s3.heap.objs.size<=c
    rw[hC];omega
   ·rw[q]at ed;cases ed
  hd:=I3.ok.hd
  frames:=I3.ok.frames
  stk:=.inl rfl
  exf:=λ b hb=>⟨fpC b hb,fpCs b hb⟩
  bs:=λ b o e=>I3.bs b o e
  bsz:=Nat.le_trans I3.ok.bsz I3.sz
  noex:=λ b o e hb=>by
   rcases(hfp3 b hb).2.2.2.1 with z|z
   ·exact I3.ok.noex b o e z
   ·exact absurd (Nat.lt_of_lt_of_le (Heap.lt_size e) (Nat.le_trans I3.ok.bsz z)) (Nat.lt_irrefl _)
  exfs:=λ b hb hz=>by
   rcases List.mem_cons.mp (I3.stkSub b hz) with z|z
   ·exact(hfp3 b hb).2.1 z
   ·exact(hfp3 b hb).2.2.1 z
  funs:=I3.stack
  frf:=I3.stkFree }
 have fpX:∀ {H':Hp},(∀ b∈fp,H' b=none)->∀ b∈fp,FpOk (cxComp X l scope (own++cl) C fp s3 H3) [] H' b:=λ hn b hb=>
  ⟨hn b hb,fpC b hb,OK.exfs b hb,.inl hb,fpCs b hb,λ p hp=>nomatch hp⟩
 have I4:Inv (cxComp X l scope (own++cl) C fp s3 H3) [] (srcV l σ) H3 { s3 with heap:=h4 }:={
  ok:=OK
  os:=rfl
  bare:=I3.bare
  base:=Un.kept old
  loc:=by
   refine⟨_,hns,λ i x v e1 e2 e3=>?_⟩
   have e1':(l.map (·.1))[i]? = some x:=e1
   have e2':(l.map λ p=>p.2.bind λ j=>(σ[j]?).join)[i]? = some (some v):=e2
   rw[List.getElem?_map]at e1' e2'
   cases el:l[i]? with
   | none=>rw[el]at e1';cases e1'
   | some p=>
    rw[el]at e1' e2'
    obtain⟨y,o⟩:=p
    have e1'':y=x:=Option.some.inj e1'
    subst e1''
    cases o with
    | none=>cases e2'
    | some j=>
     have e2'':(σ[j]?).join=some v:=Option.some.inj e2'
     have ej:σ[j]? = some (some v):=by
      cases q:σ[j]? with
      | none=>rw[q]at e2'';cases e2''
      | some z=>rw[q]at e2'';exact congrArg some e2''
     obtain⟨k1,k2,k3⟩:=hsrc.get el
     obtain⟨m,hn,hl⟩:=I3.loc
     obtain⟨u,r,lk⟩:=hl j y v k1 ej (k3.elim (λ z=>.inr (.inl z)) λ z=>.inr (.inr z))
     refine⟨u,r,.inr ⟨lookup_relabel_free k2,?_⟩⟩
     rcases lk with⟨z,_⟩|⟨_,c,ec,hcell'⟩
     ·rcases k3 with k3|k3<;>(rw[z]at k3;cases k3)
     ·have hm:(y,NameKind.free)∈scope.names:=by
       have:∀ {names:List (Str × NameKind)},names.lookup y=some NameKind.free->(y,NameKind.free)∈names:=by
        intro names
        induction names with
        | nil=>intro h;simp at h
        | cons q r ih=>
         intro h
         obtain⟨n,k⟩:=q
         rw[List.lookup_cons]at h
         split at h
         ·rename_i hy
          have:y=n:=by simpa using hy
          subst this
          cases h
          exact List.mem_cons_self
         ·exact List.mem_cons_of_mem _ (ih h)
       exact this k2
      obtain⟨c',ec'⟩:=hcl2 _ hm rfl
      have:c'=c:=by
       have:=hcl1 _ _ ec'
       rw[ec]at this
       exact(Option.some.inj this).symm
      subst this
      obtain⟨o,ho,hd⟩:=hcell'
      exact⟨c',of_cl _ _ (by rw[k2];intro z;cases z) ec',o,old _ _ ho,hd⟩
  cell:=λ x c e=>by
   rcases cs_of x c e with⟨_,q,_⟩|⟨_,q⟩
   ·exact⟨none,q⟩
   ·obtain⟨v,o,ho,hd⟩:=I3.cell x c (hcl1 x c q)
    exact⟨v,o,old _ _ ho,hd⟩
  free:=H3C
  freeC:=λ x c e=>by
   rcases cs_of x c e with⟨_,_,q⟩|⟨_,q⟩
   ·exact I3.hok.fresh (by rw[hC];omega)
   ·exact I3.freeC x c (hcl1 x c q)
  pin:=λ p hp=>nomatch hp
  hok:=I3.hok.kept old
  len:=by show(List.map _ l).length=(List.map _ l).length;rw[List.length_map,List.length_map] }
 have st4:tn 0 h4:=T.keep _ _ _ st3 λ b _ o e=>old b o e
 have loop:∀ s4:Shared,s4={ s3 with heap:=h4 }->
   codeAny (model X.prog X.w) X.A (.compLoop e 0 (.ref it) (.ref D) (compEnvC scope (own++cl) C X.env)) (RR C) s4:=by
  rintro s4 rfl
  refine compLoop_any hn hturn (λ n s'=>∃ i ys σ' H',Inv (cxComp X l scope (own++cl) C fp s3 H3) [] σ' H' s'/\tn i s'.heap/\(∀ b∈fp,H' b=none)/\W i n ys σ' H') ?_ m0
   ⟨0,y0,srcV l σ,H3,I4,st4,λ b hb=>(hfp3 b hb).1,w0⟩
  rintro n s5 ⟨i,ys,σ5,H5,I5,st5,fr5,w5⟩
  rcases turn i n ys σ5 H5 w5 with⟨stop,q⟩|⟨go,step⟩
  ·refine thn (T.done (cxComp X l scope (own++cl) C fp s3 H3) rfl rfl rfl hcalm i [] s5 σ5 H5 _ I5 (fpX fr5) st5 stop) λ r s6 ⟨hr,I6⟩=>?_
   subst hr
   obtain⟨m6,hn6,_⟩:=I6.loc
   have u:Un (frs X.stack) fp H3 H5 s3.heap s6.heap:=I6.base
   refine hRR C s6 H5 q ⟨m6,hn6⟩ (I3.call' (s':=s6) (ch:=fp) I6.os u I6.hok I6.bare λ b hb=>⟨(hfp3 b hb).2.2.2.1,(hfp3 b hb).2.1,(hfp3 b hb).2.2.2.2.1,(hfp3 b hb).2.2.2.2.2⟩) ?_
   have hle:s3.heap.objs.size<=C:=Nat.le_of_eq hC
   have f0:=I3.fpOk (H':=H5) hle I6.free
   exact f0
  ·refine thn (T.item (cxComp X l scope (own++cl) C fp s3 H3) rfl rfl rfl hcalm i [] s5 σ5 H5 _ I5 (fpX fr5) st5 go) λ r s6 ⟨u,hr,h6⟩=>?_
   subst hr
   refine thn h6 λ _ s7 ⟨x,H7,I7,r7,y7,st7,fr7⟩=>?_
   have I7':=I7.pinned (fpX fr7) (T.obj _ _ st7)
   have back:∀ {σ8:St}{H8:Hp}{s8:Shared},Inv (cxComp X l scope (own++cl) C fp s3 H3) ([]++pinsAt fp s7.heap) σ8 H8 s8->Inv (cxComp X l scope (own++cl) C fp s3 H3) [] σ8 H8 s8/\tn (i+1) s8.heap/\∀ b∈fp,H8 b=none:=λ {σ8 H8 s8} I8=>by
    refine⟨I8.unpinned,T.keep _ _ _ st7 λ b hb o e=>(I8.pin (b,o) (List.mem_append_right _ (List.mem_append_right _ (mem_pinsAt hb e)))).1,λ b hb=>?_⟩
    obtain⟨o,e,d⟩:=T.obj _ _ st7 b hb
    exact(I8.pin (b,o) (List.mem_append_right _ (List.mem_append_right _ (mem_pinsAt hb e)))).2.1
   refine thn (hg (own++cl) C fp s3 H3 _ s7 σ5 H7 x u _ I7' r7 (step x H7 y7)) λ _ s8 ⟨σ8,H8,I8,q8⟩=>?_
   refine thn (ht (own++cl) C fp s3 H3 _ s8 σ8 H8 _ I8 q8) λ ok s9 ⟨H9,I9,q9⟩=>?_
   cases ok with
   | false=>
    rw[if_neg (by decide)]at q9 ⊢
    obtain⟨m',hm,w9⟩:=q9
    obtain⟨z1,z2,z3⟩:=back I9
    exact⟨m',hm,i+1,ys,σ8,H9,z1,z2,z3,w9⟩
   | true=>
    rw[if_pos rfl]at q9 ⊢
    refine thn (hb (own++cl) C fp s3 H3 _ s9 i n ys σ8 H9 I9 q9) λ _ s11 ⟨m',ys',σ',H',hm,I11,w10⟩=>?_
    obtain⟨z1,z2,z3⟩:=back I11
    exact⟨m',hm,i+1,ys',σ',_,z1,z2,z3,w10⟩
 exact compStart_any hn hgc has (loop _ rfl) (T.self _ 0 _ _ _ st4 (loop _ rfl))
theorem add_any {Y:Cx}{elt:Expr}{te:TE}(he:PE Y elt te)(hxe:Y.xe=λ _ _=>False){D:Addr}{ys:List V}{pins:List (Addr × Obj)}{s:Shared}{σ:St}{H:Hp}{N:V->Hp->Prop}(I:Inv Y pins σ H s)
  (h:te σ H λ v H6=>H6 D=some (.lst ys)/\ys.length < sizeLine/\N v (upd H6 D (.lst (ys++[v])))) :
  wpAny (model Y.prog Y.w) Y.A (eval elt Y.env >>= λ x=>call (.builtin "list.append") [.ref D,x] >>= λ _=>pure PUnit.unit) (λ _ s'=>∃ v H',Inv Y pins σ H' s'/\N v H') (λ _ _=>False) s:=by
 have h1:=he pins s σ H _ I h
 rw[hxe]at h1
 refine wpAny_bind (thn h1 λ xv s10 ⟨v,H10,I10,r10,q10⟩=>?_)
 obtain⟨hl10,hz,w10⟩:=q10
 have h2:=mt_append _ s10 σ H10 (.ref D) [v] (.ref D) [xv] (λ z H'=>z=.non/\H'=upd H10 D (.lst (ys++[v]))) I10 rfl (.cons r10 .nil) ⟨D,ys,v,rfl,rfl,hl10,hz,rfl,rfl⟩
 rw[hxe]at h2
 refine wpAny_bind (thn h2 λ _ s11 h11=>?_)
 obtain⟨_,H11,I11,_,_,e11⟩:=h11
 subst e11
 exact wpAny_pure ⟨v,_,I11,w10⟩
theorem comp_core {X:Cx}{elt tg iter:Expr}{ifs:List Expr}{scope:Scope}{cl:List (Str × Addr)}{pos:Pos}{l:List (Str × Option Nat)}{g:TG}{tt:TT}{te:TE}
  (hclos:closureFor scope X.env=pure cl) (hcl1:∀ y c,cl.lookup y=some c->X.env.cells.lookup y=some c) (hcl2:∀ x∈scope.names,x.2=.free->∃ c,cl.lookup x.1=some c)
  (hkind:scope.kind=.function) (hcell:∀ y∈scope.names,y.2=.cell->scope.names.lookup y.1=some .cell) (hcalm:X.calm=true) (hsrc:SrcOk X scope l)
  (hg:∀ cl C fp s3 H3,PG (cxComp X l scope cl C fp s3 H3) tg g) (ht:∀ cl C fp s3 H3,PIf (cxComp X l scope cl C fp s3 H3) ifs tt) (he:∀ cl C fp s3 H3,PE (cxComp X l scope cl C fp s3 H3) elt te)
  {pins:List (Addr × Obj)}{σ:St}{H:Hp}{s:Shared}{it:Addr}{fp:List Addr}{tn:Nat->Heap->Prop}{J:It}{Q:Addr->Hp->Prop}{RR:Value->Addr->Result->Shared->Prop}{E:Value->Shared->Prop}
  (I:Inv X pins σ H s) (T:Turn X.prog X.w X.K tg J fp it tn) (st:tn 0 s.heap) (hfp:∀ b∈fp,FpOk X pins H b)
  (hw:CompW l g tt te J σ H Q)
  (hRR:∀ D C (s':Shared) (H':Hp),Q D H'->(∃ m,s'.heap.Ns C m)->Inv X pins σ H' s'->FpOk X pins H' C->RR (.ref D) C (.ok .next) s') :
  wpAny (model X.prog X.w) X.A (newList []) (λ acc s₃=>wpAny (model X.prog X.w) X.A (newFunctionEnv scope X.env.globals cl [] X.env.qual none .none (some X.env)) (λ cenv s₄=>
   codeAny (model X.prog X.w) X.A (.compStart (.ListComp elt [⟨tg,iter,ifs,0⟩] scope pos) 0 (.ref it) acc { cenv with scope:=relabel scope X.env }) (RR acc cenv.locals) s₄) E s₃) E s:=by
 refine wpAny_newList ?_ (by show 0<=sizeLine;exact Nat.zero_le _)
 have I3:Inv X pins σ (upd H s.heap.objs.size (.lst [])) { s with heap:=s.heap.push { cls:=.type "list",data:=.seq ([]:List Value).toArray } }:=
  I.lnew (its:=[]) (ys:=[]) (t':=s.toks) .nil (Nat.zero_le _)
 have hD:H s.heap.objs.size=none:=I.fresh
 obtain⟨W,⟨m0,w0⟩,turn⟩:=hw _ hD
 have fpD:∀ b∈fp,b≠s.heap.objs.size:=λ b hb z=>by
  obtain⟨o,ho,_⟩:=T.obj _ _ st b hb
  exact absurd (Heap.lt_size ho) (by rw[z];exact Nat.lt_irrefl _)
 have hfp3:∀ b∈fp,FpOk X pins (upd H s.heap.objs.size (.lst [])) b:=λ b hb=>⟨by rw[upd_ne (fpD b hb)];exact(hfp b hb).1,(hfp b hb).2⟩
 have st3:tn 0 (s.heap.push { cls:=.type "list",data:=.seq ([]:List Value).toArray }):=T.keep _ _ _ st λ b _ o e=>Heap.get?_push_of_some _ e
 refine comp_any (α:=List V) (B:=λ i m ys σ H5=>te σ H5 λ v H6=>H6 s.heap.objs.size=some (.lst ys)/\ys.length < sizeLine/\∃ m',m' < m/\W (i+1) m' (ys++[v]) σ (upd H6 s.heap.objs.size (.lst (ys++[v])))) (Q:=Q s.heap.objs.size) (p:=iter.pos) (body:=λ acc env=>eval elt env >>= λ x=>call (.builtin "list.append") [acc,x] >>= λ _=>pure PUnit.unit)
  (.inl ⟨_,_,_,_,rfl⟩) (λ _ _ _=>rfl) rfl rfl hcl1 hcl2 hkind hcell hcalm hsrc hg ht (λ cl C fp s3 H3 pins s' i m ys σ H I h=>?_) I3 T st3 hfp3 w0 turn λ C s' H' q=>hRR _ C s' H' q
 refine thn (add_any (N:=λ v H'=>∃ m',m' < m/\W (i+1) m' (ys++[v]) σ H') (he cl C fp s3 H3) rfl I h) λ _ s11 ⟨v,H',I',m',hm,w'⟩=>⟨m',_,_,H',hm,I',w'⟩
def tComp (l:List (Str × Option Nat)) (wi:TI)(g:TG)(tt:TT)(te:TE):TE:=λ σ H Q=>tCompB l wi g tt te σ H λ D H'=>Q (.ref D) H'
section
variable {X:Cx}{elt tg iter:Expr}{ifs:List Expr}{scope:Scope}{pos:Pos}{wi:TI}{g:TG}{tt:TT}{te:TE}
structure CompScope (X:Cx)(scope:Scope)(l:List (Str × Option Nat)):Prop where
 kind:scope.kind=.function
 cell:∀ y∈scope.names,y.2=.cell->scope.names.lookup y.1=some .cell
 names:∀ y∈scope.names,y.2=.local->scope.names.lookup y.1=some .local
 free:∀ y∈scope.names,y.2=.free->X.env.kindOf y.1=some .cell∨X.env.kindOf y.1=some .free
 src:SrcOk X scope l
theorem pe_comp (l:List (Str × Option Nat)) (hsc:CompScope X scope l)(hcalm:X.calm=true)(hi:PI X tg iter wi)
  (hg:∀ cl C fp s3 H3,PG (cxComp X l scope cl C fp s3 H3) tg g) (ht:∀ cl C fp s3 H3,PIf (cxComp X l scope cl C fp s3 H3) ifs tt) (he:∀ cl C fp s3 H3,PE (cxComp X l scope cl C fp s3 H3) elt te)
  (hs:∀ x,foldedSetIterable iter X.env x=pure x:=by intro _;rfl) :
  PE X (.ListComp elt [⟨tg,iter,ifs,0⟩] scope pos) (tComp l wi g tt te):=by
 intro pins s σ H Q I h
 obtain⟨cl,e1,e2,e3⟩:=closureFor_ok (scope:=scope) (env:=X.env) λ x hx hf=>I.ok.has x.1 (hsc.free x hx hf)
 rw[eval_ListComp]
 refine wpAny_comprehension_free (use:=none) rfl hs e1 hsc.kind hsc.names (thn (hi pins s σ H _ I h) λ v s1 h1=>thn h1 λ itv s2 h2=>?_)
 obtain⟨it,fp,tn,J,H2,e,I2,T,st2,f2,hw⟩:=h2
 subst e
 refine comp_core (RR:=λ acc C=>compPost (model X.prog X.w) X.A X.xe none (EP X pins σ Q) acc C) e1 e2 e3 hsc.kind hsc.cell hcalm hsc.src hg ht he I2 T st2 f2 hw ?_
 intro D C s' H' q ⟨m,hn⟩ I' f'
 refine⟨m,hn,λ h' hs'=>?_⟩
 exact⟨.ref D,H',I'.turned (t':=s'.toks) (λ b o hb e=>(hs'.2 b hb).trans e) f'.1 f'.2.1 f'.2.2.2.1 f'.2.2.2.2.1 f'.2.2.2.2.2,rfl,q⟩
theorem ps_setComp {i:Nat}{y:Str}{py spos:Pos}(l:List (Str × Option Nat)) (hsc:CompScope X scope l)(hcalm:X.calm=true)(hN:X.N.Nodup)(hy:X.N[i]? = some y)(hx:X.env.scope.names.lookup y=some .local)(hi:PI X tg iter wi)
  (hg:∀ cl C fp s3 H3,PG (cxComp X l scope cl C fp s3 H3) tg g) (ht:∀ cl C fp s3 H3,PIf (cxComp X l scope cl C fp s3 H3) ifs tt) (he:∀ cl C fp s3 H3,PE (cxComp X l scope cl C fp s3 H3) elt te)
  (hsw:swapsWith (.ListComp elt [⟨tg,iter,ifs,0⟩] scope pos) (some (.Name y py)) spos.line X.env=pure true)
  (hs:∀ x,foldedSetIterable iter X.env x=pure x:=by intro _;rfl) :
  PS X (.Assign [.Name y py] (.ListComp elt [⟨tg,iter,ifs,0⟩] scope pos) spos) (tAsg (tComp l wi g tt te) (gName i)):=by
 intro pins s σ H D0 I h
 obtain⟨cl,e1,e2,e3⟩:=closureFor_ok (scope:=scope) (env:=X.env) λ x hx hf=>I.ok.has x.1 (hsc.free x hx hf)
 rw[exec_Assign_Name_used _ _ _ _ hsw]
 refine wpAny_bind (wpAny_standAt (wpAny_bind ?_))
 show wpAny _ X.A (do let _ <-comprehension (.ListComp elt [⟨tg,iter,ifs,0⟩] scope pos) scope X.env _ (newList []) false (eval iter X.env) (some (assign (.Name y py) X.env))) _ _ s
 refine wpAny_bind (thn (wpAny_comprehension_free (use:=some (assign (.Name y py) X.env)) (Q:=λ _ s'=>SP X pins D0 .next s') rfl hs e1 hsc.kind hsc.names
  (thn (hi pins s σ H _ I h) λ v s1 h1=>thn h1 λ itv s2 h2=>?_)) λ _ s' hq=>wpAny_pure (wpAny_pure hq))
 obtain⟨it,fp,tn,J,H2,e,I2,T,st2,f2,hw⟩:=h2
 subst e
 refine comp_core (RR:=λ acc C=>compPost (model X.prog X.w) X.A X.xe (some (assign (.Name y py) X.env)) (λ _ s'=>SP X pins D0 .next s') acc C) e1 e2 e3 hsc.kind hsc.cell hcalm hsc.src hg ht he I2 T st2 f2 hw ?_
 intro D C s' H' q ⟨m,hn⟩ I' f'
 show wpAny _ X.A (assign (.Name y py) X.env (.ref D)) _ _ _
 refine wpAny_assign_Name (store_ok2 (v:=.ref D) I' hN hy (.inl hx) rfl (λ s'' I'' hk=>?_) (.inr hx))
 obtain⟨a,hsb,ha⟩:=hk
 have hCa:C≠a:=by
  rintro rfl
  rcases ha with z|z
  ·exact f'.2.1 z
  ·exact f'.2.2.2.2.1 y _ z rfl
 refine⟨m,hn.sameBut hsb hCa,λ h' hs'=>?_⟩
 exact⟨_,H',I''.turned (t':=s''.toks) (λ b o hb e=>(hs'.2 b hb).trans e) f'.1 f'.2.1 f'.2.2.2.1 f'.2.2.2.2.1 f'.2.2.2.2.2,q⟩
end
end L2
namespace L2
open PySem PySem.Spec PyProof.Rows
def Fit (n:Nat)(i:Int):Prop:=i.natAbs < 2 ^ n
theorem Fit.mono {n m:Nat}{i:Int}(h:Fit n i)(k:n<=m):Fit m i:=Nat.lt_of_lt_of_le h (Nat.pow_le_pow_right (by decide) k)
theorem Fit.mul {n m:Nat}{i j:Int}(h:Fit n i)(k:Fit m j):Fit (n+m) (i * j):=by
 unfold Fit at *
 rw[Int.natAbs_mul,Nat.pow_add]
 exact Nat.mul_lt_mul'' h k
theorem Fit.neg {n:Nat}{i:Int}(h:Fit n i):Fit n (-i):=by unfold Fit at *;rw[Int.natAbs_neg];exact h
theorem Fit.add {n:Nat}{i j:Int}(h:Fit n i)(k:Fit n j):Fit (n+1) (i+j):=by
 unfold Fit at *
 have:=Int.natAbs_add_le i j
 rw[Nat.pow_succ]
 omega
theorem Fit.le {n:Nat}{i j:Int}(h:Fit n i)(k:j.natAbs<=i.natAbs):Fit n j:=Nat.lt_of_le_of_lt k h
theorem Fit.bits {n:Nat}{i:Int}(h:Fit n i):Builtin.Int.intBits i<=n:=by
 unfold Builtin.Int.intBits
 split
 ·exact Nat.zero_le _
 ·rename_i hz
  have h0:i.natAbs≠0:=by
   intro z
   apply hz
   have:i=0:=by omega
   simp[this]
  have:=(Nat.log2_lt h0).mpr h
  omega
theorem Fit.log {n:Nat}{i:Int}(h:Fit n i)(hn:0 < n):i.natAbs.log2 < n:=by
 by_cases h0:i.natAbs=0
 ·rw[h0]
  show Nat.log2 0 < n
  have:Nat.log2 0=0:=by decide
  rw[this];exact hn
 ·exact(Nat.log2_lt h0).mpr h
theorem Fit.mulOk {i j:Int}(h:Fit 60000000 i)(k:Fit 60000000 j):IntMulOk i j:=by
 have h1:=h.bits
 have h2:=k.bits
 unfold IntMulOk
 have e:Builtin.Int.intTooBig (((Builtin.Int.intBits i+Builtin.Int.intBits j:Nat)):Int)=false:=by
  unfold Builtin.Int.intTooBig
  refine decide_eq_false ?_
  show ¬ ((((Builtin.Int.intBits i+Builtin.Int.intBits j:Nat)):Int) > (((2 ^ 27:Nat)):Int))
  have:(2 ^ 27:Nat)=134217728:=by decide
  omega
 simp[e]
 try (intro _ _;exact_mod_cast e)
theorem fit_of_lt {i:Int}{n:Nat}(h1:-(2 ^ n) < i) (h2:i < 2 ^ n):Fit n i:=by
 unfold Fit
 have e:((2 ^ n:Nat):Int)=(2:Int) ^ n:=by
  rw[Int.natCast_pow];rfl
 have:(i.natAbs:Int) < ((2 ^ n:Nat):Int):=by rw[e];omega
 exact_mod_cast this
section
variable {X:Cx}
theorem op_mulG:OpR X (binaryOp .Mult) (rI (λ i j=>Fit 60000000 i/\Fit 60000000 j) λ i j=>.int (i * j)):=opI λ _ _ _ _ _ _ _ hc q=>mul_int q (hc.1.mulOk hc.2)
theorem op_fdivG:OpR X (binaryOp .FloorDiv) (rI (λ _ j=>j≠0/\Fit 9000 j) λ i j=>.int (i.fdiv j)):=opI λ _ _ _ _ _ _ _ hc q=>floordiv_int hc.1 q (.inl (PyProof.noPylong_of_log2 (hc.2.log (by decide))))
theorem call_divmodP:CallR X (.builtin "divmod") (λ xs H Q=>∃ i j,xs=[.int i,.int j]/\(0 < j/\Fit 9000 j)/\∀ p,H p=none->Q (.ref p) (upd H p (.tup [.int (i / j),.int (i % j)]))):=by
 intro pins s σ H xs us Q I r h
 obtain⟨i,j,rfl,⟨h1,h2⟩,q⟩:=h
 obtain⟨u,w',rfl,⟨t,rfl⟩,⟨t',rfl⟩⟩:=vals2 r
 refine divmod_int (by omega) ?_ (.inl (PyProof.noPylong_of_log2 (h2.log (by decide))))
 rw[Int.fdiv_eq_ediv_of_nonneg i (by omega),Int.fmod_eq_emod_of_nonneg i (by omega)]
 have hn:H s.heap.objs.size=none:=I.hok.fresh (Nat.le_refl _)
 refine⟨.ref s.heap.objs.size,_,?_,rfl,q _ hn⟩
 refine I.laid (λ b o e=>Heap.get?_push_of_some _ e) (Nat.le_refl _) ⟨by simp only[List.length_cons,List.length_nil];rw[sizeLine_eq];decide,[.int (i / j) s.toks,.int (i % j) (s.toks+1)],.cons ⟨_,rfl⟩ (.cons ⟨_,rfl⟩ .nil),?_⟩
 exact⟨_,Heap.get?_push_size s.heap rfl,rfl,0,rfl⟩
theorem bools_of:∀ {bs:List Bool}{us:List Value},Vals (bs.map V.bl) us->∀ (i:Nat)(v:Value),us[i]? = some v->∃ b:Bool,bs[i]? = some b/\v=Value.bool b
 | [],us,r,i,v,e=>by
  cases r
  simp at e
 | b :: bs,us,r,i,v,e=>by
  cases r with
  | cons r1 r2=>
   cases i with
   | zero=>
    simp at e
    subst e
    exact⟨b,rfl,r1⟩
   | succ i=>
    obtain⟨b',e1,e2⟩:=bools_of r2 i v (by simpa using e)
    exact⟨b',by simpa using e1,e2⟩
theorem range_allB (bs:List Bool):((List.range bs.length).all λ i=>(bs[i]?).getD true)=bs.all id:=by
 rw[Bool.eq_iff_iff,List.all_eq_true,List.all_eq_true]
 constructor
 ·intro h b hb
  obtain⟨i,hi,e⟩:=List.getElem_of_mem hb
  have:=h i (List.mem_range.mpr hi)
  simp only[List.getElem?_eq_getElem hi,Option.getD_some,e]at this
  exact this
 ·intro h i hi
  have hi':=List.mem_range.mp hi
  simp only[List.getElem?_eq_getElem hi',Option.getD_some]
  exact h _ (List.getElem_mem hi')
theorem call_allL (hc:X.calm=true):CallR X (.builtin "all") (λ xs H Q=>∃ (a:Addr) (bs:List Bool),xs=[.ref a]/\SqL X.K H a (bs.map V.bl)/\Q (.bl (bs.all id)) H):=by
 intro pins s σ H xs us Q I r h
 obtain⟨a,bs,rfl,ha,q⟩:=h
 obtain⟨u,rfl,ru⟩:=vals1 r
 cases ru
 obtain⟨its,rv,p,hz⟩:=I.list ha
 have hl:=p.isList
 have hlt:a < s.heap.objs.size:=by obtain⟨_,e,_⟩:=hl;exact Heap.lt_size e
 refine call_all_walk (wpAny_pyIter_list hl ?_)
 refine⟨s.heap.objs.size,[s.heap.objs.size,a],[s.heap.objs.size],its.toArray.size,_,_,λ i=>(bs[i]?).getD true,rfl,Walks.list (A:=X.A.in1) (I.ok.hd hc) _ a (Nat.ne_of_lt hlt) its.toArray,
  ⟨⟨_,Heap.get?_push_size _ rfl,rfl,rfl⟩,hl.push _⟩,λ i v s' Q' E' hP hQ=>?_,λ h' tk hk=>?_⟩
 ·obtain⟨b,e,rfl⟩:=bools_of rv i v (by simpa using hP)
  simp only[e,Option.getD_some]at hQ
  exact wpAny_truthy_bool hQ
 ·have e:((List.range its.toArray.size).all λ i=>(bs[i]?).getD true)=bs.all id:=by
   rw[List.size_toArray,<-rv.length,List.length_map];exact range_allB bs
  rw[e]
  refine⟨.bl _,H,I.kept (t':=tk) λ b x e=>hk b x (λ hm=>?_) (Heap.get?_push_of_some _ e),rfl,q⟩
  rw[List.mem_singleton.mp hm]at e
  exact Nat.lt_irrefl _ (Heap.lt_size e)
end
inductive Dt where
 | non|bl (b:Bool)|int (i:Int)|str (x:Str)|tup (l:List Dt)|lst (l:List Dt)
mutual
def Dt.dep:Dt->Nat
 | .tup l=>depL l+1
 | .lst l=>depL l+1
 | _=>0
def depL:List Dt->Nat
 | []=>0
 | d :: r=>max d.dep (depL r)
end
mutual
def eqD:Dt->Dt->Bool
 | .non,.non=>true
 | .bl a,.bl b=>a == b
 | .bl a,.int b=>(if a then 1 else 0) == b
 | .int a,.bl b=>a == (if b then 1 else 0)
 | .int a,.int b=>a == b
 | .str a,.str b=>a == b
 | .tup a,.tup b=>eqDL a b
 | .lst a,.lst b=>eqDL a b
 | _,_=>false
def eqDL:List Dt->List Dt->Bool
 | [],[]=>true
 | a :: r,b :: q=>eqD a b && eqDL r q
 | _,_=>false
end
mutual
def Rep (K:PySem.W.Frag)(N:Addr->Prop)(H:Hp):Dt->V->Prop
 | .non,v=>v=.non
 | .bl b,v=>v=.bl b
 | .int i,v=>v=.int i
 | .str x,v=>v=.str x
 | .tup l,v=>∃ a xs,v=.ref a/\¬ N a/\SqT K H a xs/\RepL K N H l xs
 | .lst l,v=>∃ a xs,v=.ref a/\¬ N a/\SqL K H a xs/\RepL K N H l xs
def RepL (K:PySem.W.Frag)(N:Addr->Prop)(H:Hp):List Dt->List V->Prop
 | [],xs=>xs=[]
 | d :: r,xs=>∃ x ys,xs=x :: ys/\Rep K N H d x/\RepL K N H r ys
end
def SameX (N:Addr->Prop)(H H':Hp):Prop:=∀ b o,H b=some o->¬ N b->H' b=some o
theorem SameX.sqT {K:PySem.W.Frag}{N:Addr->Prop}{H H':Hp}{a:Addr}{xs:List V}(s:SameX N H H')(n:¬ N a)(h:SqT K H a xs):SqT K H' a xs:=by
 rcases h with(h|⟨o,h⟩)|h
 ·exact .inl (.inl (s _ _ h n))
 ·exact .inl (.inr ⟨o,s _ _ h n⟩)
 ·exact .inr h
theorem SameX.sqL {K:PySem.W.Frag}{N:Addr->Prop}{H H':Hp}{a:Addr}{xs:List V}(s:SameX N H H')(n:¬ N a)(h:SqL K H a xs):SqL K H' a xs:=by
 rcases h with(h|⟨o,h⟩)|h
 ·exact .inl (.inl (s _ _ h n))
 ·exact .inl (.inr ⟨o,s _ _ h n⟩)
 ·exact .inr h
mutual
theorem Rep.same {K:PySem.W.Frag}{N:Addr->Prop}{H H':Hp}(s:SameX N H H'):∀ {d:Dt}{v:V},Rep K N H d v->Rep K N H' d v
 | .non,_,h=>h
 | .bl _,_,h=>h
 | .int _,_,h=>h
 | .str _,_,h=>h
 | .tup l,v,h=>by
  unfold Rep at h ⊢
  obtain⟨a,xs,e,n,q,r⟩:=h
  exact⟨a,xs,e,n,s.sqT n q,RepL.same s r⟩
 | .lst l,v,h=>by
  unfold Rep at h ⊢
  obtain⟨a,xs,e,n,q,r⟩:=h
  exact⟨a,xs,e,n,s.sqL n q,RepL.same s r⟩
theorem RepL.same {K:PySem.W.Frag}{N:Addr->Prop}{H H':Hp}(s:SameX N H H'):∀ {l:List Dt}{xs:List V},RepL K N H l xs->RepL K N H' l xs
 | [],_,h=>h
 | d :: r,xs,h=>by
  unfold RepL at h ⊢
  obtain⟨x,ys,e,h1,h2⟩:=h
  exact⟨x,ys,e,Rep.same s h1,RepL.same s h2⟩
end
theorem RepL.length {K:PySem.W.Frag}{N:Addr->Prop}{H:Hp}:∀ {l:List Dt}{xs:List V},RepL K N H l xs->l.length=xs.length
 | [],xs,h=>by unfold RepL at h;rw[h];rfl
 | d :: r,xs,h=>by
  unfold RepL at h
  obtain⟨x,ys,rfl,_,h2⟩:=h
  rw[List.length_cons,List.length_cons,RepL.length h2]
theorem RepL.get {K:PySem.W.Frag}{N:Addr->Prop}{H:Hp}:∀ {l:List Dt}{xs:List V}{i:Nat}{d:Dt},RepL K N H l xs->l[i]? = some d->∃ x,xs[i]? = some x/\Rep K N H d x
 | [],xs,i,d,h,e=>by simp at e
 | d0 :: r,xs,0,d,h,e=>by
  unfold RepL at h
  obtain⟨x,ys,rfl,h1,_⟩:=h
  simp at e
  subst e
  exact⟨x,rfl,h1⟩
 | d0 :: r,xs,i+1,d,h,e=>by
  unfold RepL at h
  obtain⟨x,ys,rfl,_,h2⟩:=h
  obtain⟨y,e1,e2⟩:=RepL.get (i:=i) h2 (by simpa using e)
  exact⟨y,by simpa using e1,e2⟩
theorem eqDL_len:∀ {l q:List Dt},l.length≠q.length->eqDL l q=false
 | [],[],h=>absurd rfl h
 | [],_ :: _,_=>by simp[eqDL]
 | _ :: _,[],_=>by simp[eqDL]
 | a :: r,b :: q,h=>by
  simp only[eqDL]
  rw[eqDL_len (l:=r) (q:=q) (by simpa using h),Bool.and_false]
theorem eqDL_range:∀ {l q:List Dt},l.length=q.length->eqDL l q=(List.range l.length).all λ i=>match l[i]?,q[i]? with|some a,some b=>eqD a b|_,_=>true
 | [],[],_=>by simp[eqDL]
 | a :: r,b :: q,h=>by
  simp only[eqDL]
  rw[eqDL_range (l:=r) (q:=q) (by simpa using h),List.length_cons,List.range_succ_eq_map,List.all_cons,List.all_map]
  simp[Function.comp_def]
theorem depL_get:∀ {l:List Dt}{i:Nat}{d:Dt},l[i]? = some d->d.dep<=depL l
 | [],i,d,e=>by simp at e
 | a :: r,0,d,e=>by simp at e;subst e;simp only[depL];exact Nat.le_max_left _ _
 | a :: r,i+1,d,e=>by
  have:=depL_get (l:=r) (i:=i) (d:=d) (by simpa using e)
  simp only[depL]
  exact Nat.le_trans this (Nat.le_max_right _ _)
section
variable {X:Cx}{pins:List (Addr × Obj)}{σ:St}{H:Hp}{s:Shared}{N N':Addr->Prop}
theorem not_both (I:Inv X pins σ H s){a:Addr}{xs ys:List V}(h:SqL X.K H a xs)(k:SqT X.K H a ys):False:=by
 obtain⟨its,_,p,_⟩:=I.list h
 obtain⟨its2,_,q,_⟩:=I.tuple k
 obtain⟨o,e,c,_⟩:=p.isList
 obtain⟨o2,e2,c2,_⟩:=q
 rw[e]at e2
 cases e2
 rw[c]at c2
 injection c2 with z
 exact absurd z (by decide)
mutual
theorem Rep.inj (I:Inv X pins σ H s):∀ {d e:Dt}{v:V},Rep X.K N H d v->Rep X.K N' H e v->d=e
 | .non,.non,_,_,_=>rfl
 | .non,.bl _,_,h,k=>by unfold Rep at h k;rw[h]at k;cases k
 | .non,.int _,_,h,k=>by unfold Rep at h k;rw[h]at k;cases k
 | .non,.str _,_,h,k=>by unfold Rep at h k;rw[h]at k;cases k
 | .non,.tup _,_,h,k=>by unfold Rep at h k;obtain⟨_,_,e,_⟩:=k;rw[h]at e;cases e
 | .non,.lst _,_,h,k=>by unfold Rep at h k;obtain⟨_,_,e,_⟩:=k;rw[h]at e;cases e
 | .bl _,.non,_,h,k=>by unfold Rep at h k;rw[h]at k;cases k
 | .bl x,.bl y,_,h,k=>by unfold Rep at h k;rw[h]at k;cases k;rfl
 | .bl _,.int _,_,h,k=>by unfold Rep at h k;rw[h]at k;cases k
 | .bl _,.str _,_,h,k=>by unfold Rep at h k;rw[h]at k;cases k
 | .bl _,.tup _,_,h,k=>by unfold Rep at h k;obtain⟨_,_,e,_⟩:=k;rw[h]at e;cases e
 | .bl _,.lst _,_,h,k=>by unfold Rep at h k;obtain⟨_,_,e,_⟩:=k;rw[h]at e;cases e
 | .int _,.non,_,h,k=>by unfold Rep at h k;rw[h]at k;cases k
 | .int _,.bl _,_,h,k=>by unfold Rep at h k;rw[h]at k;cases k
 | .int x,.int y,_,h,k=>by unfold Rep at h k;rw[h]at k;cases k;rfl
 | .int _,.str _,_,h,k=>by unfold Rep at h k;rw[h]at k;cases k
 | .int _,.tup _,_,h,k=>by unfold Rep at h k;obtain⟨_,_,e,_⟩:=k;rw[h]at e;cases e
 | .int _,.lst _,_,h,k=>by unfold Rep at h k;obtain⟨_,_,e,_⟩:=k;rw[h]at e;cases e
 | .str _,.non,_,h,k=>by unfold Rep at h k;rw[h]at k;cases k
 | .str _,.bl _,_,h,k=>by unfold Rep at h k;rw[h]at k;cases k
 | .str _,.int _,_,h,k=>by unfold Rep at h k;rw[h]at k;cases k
 | .str x,.str y,_,h,k=>by unfold Rep at h k;rw[h]at k;cases k;rfl
 | .str _,.tup _,_,h,k=>by unfold Rep at h k;obtain⟨_,_,e,_⟩:=k;rw[h]at e;cases e
 | .str _,.lst _,_,h,k=>by unfold Rep at h k;obtain⟨_,_,e,_⟩:=k;rw[h]at e;cases e
 | .tup _,.non,_,h,k=>by unfold Rep at h k;obtain⟨_,_,e,_⟩:=h;rw[k]at e;cases e
 | .tup _,.bl _,_,h,k=>by unfold Rep at h k;obtain⟨_,_,e,_⟩:=h;rw[k]at e;cases e
 | .tup _,.int _,_,h,k=>by unfold Rep at h k;obtain⟨_,_,e,_⟩:=h;rw[k]at e;cases e
 | .tup _,.str _,_,h,k=>by unfold Rep at h k;obtain⟨_,_,e,_⟩:=h;rw[k]at e;cases e
 | .tup l,.tup q,_,h,k=>by
  unfold Rep at h k
  obtain⟨a,xs,rfl,_,h1,h2⟩:=h
  obtain⟨b,ys,e,_,k1,k2⟩:=k
  cases e
  have:=I.tuple_inj h1 k1
  subst this
  rw[RepL.inj I h2 k2]
 | .tup _,.lst _,_,h,k=>by unfold Rep at h k;obtain⟨_,_,rfl,_,h1,_⟩:=h;obtain⟨_,_,e,_,k1,_⟩:=k;cases e;exact(not_both I k1 h1).elim
 | .lst _,.non,_,h,k=>by unfold Rep at h k;obtain⟨_,_,e,_⟩:=h;rw[k]at e;cases e
 | .lst _,.bl _,_,h,k=>by unfold Rep at h k;obtain⟨_,_,e,_⟩:=h;rw[k]at e;cases e
 | .lst _,.int _,_,h,k=>by unfold Rep at h k;obtain⟨_,_,e,_⟩:=h;rw[k]at e;cases e
 | .lst _,.str _,_,h,k=>by unfold Rep at h k;obtain⟨_,_,e,_⟩:=h;rw[k]at e;cases e
 | .lst _,.tup _,_,h,k=>by unfold Rep at h k;obtain⟨_,_,rfl,_,h1,_⟩:=h;obtain⟨_,_,e,_,k1,_⟩:=k;cases e;exact(not_both I h1 k1).elim
 | .lst l,.lst q,_,h,k=>by
  unfold Rep at h k
  obtain⟨a,xs,rfl,_,h1,h2⟩:=h
  obtain⟨b,ys,e,_,k1,k2⟩:=k
  cases e
  have:=I.list_inj h1 k1
  subst this
  rw[RepL.inj I h2 k2]
theorem RepL.inj (I:Inv X pins σ H s):∀ {l q:List Dt}{xs:List V},RepL X.K N H l xs->RepL X.K N' H q xs->l=q
 | [],[],_,_,_=>rfl
 | [],_ :: _,_,h,k=>by unfold RepL at h k;obtain⟨_,_,e,_⟩:=k;rw[h]at e;cases e
 | _ :: _,[],_,h,k=>by unfold RepL at h k;obtain⟨_,_,e,_⟩:=h;rw[k]at e;cases e
 | a :: r,b :: q,xs,h,k=>by
  unfold RepL at h k
  obtain⟨x,ys,rfl,h1,h2⟩:=h
  obtain⟨y,zs,e,k1,k2⟩:=k
  cases e
  rw[Rep.inj I h1 k1,RepL.inj I h2 k2]
end
mutual
theorem eqD_self:∀ d:Dt,eqD d d=true
 | .non=>by simp[eqD]
 | .bl _=>by simp[eqD]
 | .int _=>by simp[eqD]
 | .str _=>by simp[eqD]
 | .tup l=>by simp only[eqD];exact eqDL_self l
 | .lst l=>by simp only[eqD];exact eqDL_self l
theorem eqDL_self:∀ l:List Dt,eqDL l l=true
 | []=>by simp[eqDL]
 | d :: r=>by simp only[eqDL,eqD_self d,eqDL_self r,Bool.and_self]
end
theorem items_eq {A:Around}{k:Nat}(ih:∀ (d e:Dt){v w:V}{u z:Value},d.dep<=k->Rep X.K N H d v->Rep X.K N' H e w->RelV v u->RelV w z->SeqAt.EqAt A s u z (eqD d e))
  {l q:List Dt}{xs ys:List V}{its its2:List Value}(hd:depL l<=k) (h:RepL X.K N H l xs) (h':RepL X.K N' H q ys) (r:Vals xs its) (r':Vals ys its2) :
  ∀ j (h1:j < its.toArray.size) (h2:j < its2.toArray.size),SeqAt.EqAt A s its.toArray[j] its2.toArray[j] (match l[j]?,q[j]? with|some a,some b=>eqD a b|_,_=>true):=by
 intro j h1 h2
 have n1:l.length=its.length:=h.length.trans r.length
 have n2:q.length=its2.length:=h'.length.trans r'.length
 have j1:j < l.length:=by rw[n1];simpa using h1
 have j2:j < q.length:=by rw[n2];simpa using h2
 obtain⟨x,ex,rx⟩:=h.get (List.getElem?_eq_getElem j1)
 obtain⟨y,ey,ry⟩:=h'.get (List.getElem?_eq_getElem j2)
 obtain⟨u,eu,ru⟩:=r.get ex
 obtain⟨z,ez,rz⟩:=r'.get ey
 rw[List.getElem?_eq_getElem j1,List.getElem?_eq_getElem j2]
 have e1:its.toArray[j]=u:=by
  have:=List.getElem?_eq_some_iff.mp eu
  obtain⟨_,e⟩:=this
  simpa using e
 have e2:its2.toArray[j]=z:=by
  have:=List.getElem?_eq_some_iff.mp ez
  obtain⟨_,e⟩:=this
  simpa using e
 rw[e1,e2]
 exact ih _ _ (Nat.le_trans (depL_get (List.getElem?_eq_getElem j1)) hd) rx ry ru rz
theorem eq_tup_val {l q:List Dt}{xs ys:List V}{its its2:List Value}(h:RepL X.K N H l xs)(h':RepL X.K N' H q ys)(r:Vals xs its)(r':Vals ys its2) :
  ((List.range (min its.toArray.size its2.toArray.size)).all (λ j=>match l[j]?,q[j]? with|some a,some b=>eqD a b|_,_=>true) && its.toArray.size == its2.toArray.size)=eqDL l q:=by
 have n1:l.length=its.toArray.size:=by simpa using h.length.trans r.length
 have n2:q.length=its2.toArray.size:=by simpa using h'.length.trans r'.length
 rw[<-n1,<-n2]
 by_cases hn:l.length=q.length
 ·rw[eqDL_range hn,hn,Nat.min_self]
  simp
 ·rw[eqDL_len hn]
  have:(l.length == q.length)=false:=by simpa using hn
  rw[this,Bool.and_false]
theorem eqAt_D (I:Inv X pins σ H s):∀ (k:Nat) (A:Around),A.units+k < cLine->∀ (d e:Dt) {v w:V}{u z:Value},d.dep<=k->Rep X.K N H d v->Rep X.K N' H e w->RelV v u->RelV w z->SeqAt.EqAt A s u z (eqD d e):=by
 intro k
 induction k with
 | zero=>
  intro A hA d e v w u z hd h h' r r'
  have hu:A.units < cLine:=by omega
  cases d with
  | tup l=>exact absurd hd (by simp[Dt.dep])
  | lst l=>exact absurd hd (by simp[Dt.dep])
  | non=>
   unfold Rep at h
   subst h
   cases e with
   | non=>
    unfold Rep at h'
    subst h'
    have:=eqAt_V (A:=A) (s:=s) r r' rfl rfl
    simpa[eqD,eqV]using this
   | bl y=>
    unfold Rep at h'
    subst h'
    have:=eqAt_V (A:=A) (s:=s) r r' rfl rfl
    simpa[eqD,eqV]using this
   | int y=>
    unfold Rep at h'
    subst h'
    have:=eqAt_V (A:=A) (s:=s) r r' rfl rfl
    simpa[eqD,eqV]using this
   | str y=>
    unfold Rep at h'
    subst h'
    have:=eqAt_V (A:=A) (s:=s) r r' rfl rfl
    simpa[eqD,eqV]using this
   | tup y=>
    unfold Rep at h'
    obtain⟨a,xs,rfl,_,q1,_⟩:=h'
    cases r'
    obtain⟨its,_,p,_⟩:=I.tuple q1
    cases r
    simp only[eqD]
    exact SeqAt.EqAt.none_tuple p hu
   | lst y=>
    unfold Rep at h'
    obtain⟨a,xs,rfl,_,q1,_⟩:=h'
    cases r'
    obtain⟨its,_,p,_⟩:=I.list q1
    cases r
    simp only[eqD]
    exact SeqAt.EqAt.none_list p.isList hu
  | bl x=>
   unfold Rep at h
   subst h
   cases e with
   | non=>
    unfold Rep at h'
    subst h'
    have:=eqAt_V (A:=A) (s:=s) r r' rfl rfl
    simpa[eqD,eqV]using this
   | bl y=>
    unfold Rep at h'
    subst h'
    have:=eqAt_V (A:=A) (s:=s) r r' rfl rfl
    simpa[eqD,eqV]using this
   | int y=>
    unfold Rep at h'
    subst h'
    have:=eqAt_V (A:=A) (s:=s) r r' rfl rfl
    simpa[eqD,eqV]using this
   | str y=>
    unfold Rep at h'
    subst h'
    have:=eqAt_V (A:=A) (s:=s) r r' rfl rfl
    simpa[eqD,eqV]using this
   | tup y=>
    unfold Rep at h'
    obtain⟨a,xs,rfl,_,q1,_⟩:=h'
    cases r'
    obtain⟨its,_,p,_⟩:=I.tuple q1
    cases r
    simp only[eqD]
    exact SeqAt.EqAt.bool_tuple x p hu
   | lst y=>
    unfold Rep at h'
    obtain⟨a,xs,rfl,_,q1,_⟩:=h'
    cases r'
    obtain⟨its,_,p,_⟩:=I.list q1
    cases r
    simp only[eqD]
    exact SeqAt.EqAt.bool_list x p.isList hu
  | int x=>
   unfold Rep at h
   subst h
   cases e with
   | non=>
    unfold Rep at h'
    subst h'
    have:=eqAt_V (A:=A) (s:=s) r r' rfl rfl
    simpa[eqD,eqV]using this
   | bl y=>
    unfold Rep at h'
    subst h'
    have:=eqAt_V (A:=A) (s:=s) r r' rfl rfl
    simpa[eqD,eqV]using this
   | int y=>
    unfold Rep at h'
    subst h'
    have:=eqAt_V (A:=A) (s:=s) r r' rfl rfl
    simpa[eqD,eqV]using this
   | str y=>
    unfold Rep at h'
    subst h'
    have:=eqAt_V (A:=A) (s:=s) r r' rfl rfl
    simpa[eqD,eqV]using this
   | tup y=>
    unfold Rep at h'
    obtain⟨a,xs,rfl,_,q1,_⟩:=h'
    cases r'
    obtain⟨its,_,p,_⟩:=I.tuple q1
    obtain⟨t,rfl⟩:=r
    simp only[eqD]
    exact SeqAt.EqAt.int_tuple x t p hu
   | lst y=>
    unfold Rep at h'
    obtain⟨a,xs,rfl,_,q1,_⟩:=h'
    cases r'
    obtain⟨its,_,p,_⟩:=I.list q1
    obtain⟨t,rfl⟩:=r
    simp only[eqD]
    exact SeqAt.EqAt.int_list x t p.isList hu
  | str x=>
   unfold Rep at h
   subst h
   cases e with
   | non=>
    unfold Rep at h'
    subst h'
    have:=eqAt_V (A:=A) (s:=s) r r' rfl rfl
    simpa[eqD,eqV]using this
   | bl y=>
    unfold Rep at h'
    subst h'
    have:=eqAt_V (A:=A) (s:=s) r r' rfl rfl
    simpa[eqD,eqV]using this
   | int y=>
    unfold Rep at h'
    subst h'
    have:=eqAt_V (A:=A) (s:=s) r r' rfl rfl
    simpa[eqD,eqV]using this
   | str y=>
    unfold Rep at h'
    subst h'
    have:=eqAt_V (A:=A) (s:=s) r r' rfl rfl
    simpa[eqD,eqV]using this
   | tup y=>
    unfold Rep at h'
    obtain⟨a,xs,rfl,_,q1,_⟩:=h'
    cases r'
    obtain⟨its,_,p,_⟩:=I.tuple q1
    obtain⟨t,rfl⟩:=r
    simp only[eqD]
    exact SeqAt.EqAt.str_tuple x t p hu
   | lst y=>
    unfold Rep at h'
    obtain⟨a,xs,rfl,_,q1,_⟩:=h'
    cases r'
    obtain⟨its,_,p,_⟩:=I.list q1
    obtain⟨t,rfl⟩:=r
    simp only[eqD]
    exact SeqAt.EqAt.str_list x t p.isList hu
 | succ k ih=>
  intro A hA d e v w u z hd h h' r r'
  have hu:A.units < cLine:=by omega
  have hA':A.in1.units+k < cLine:=by have:A.in1.units=A.units+1:=rfl;omega
  cases d with
  | non=>
   unfold Rep at h
   subst h
   cases e with
   | non=>
    unfold Rep at h'
    subst h'
    have:=eqAt_V (A:=A) (s:=s) r r' rfl rfl
    simpa[eqD,eqV]using this
   | bl y=>
    unfold Rep at h'
    subst h'
    have:=eqAt_V (A:=A) (s:=s) r r' rfl rfl
    simpa[eqD,eqV]using this
   | int y=>
    unfold Rep at h'
    subst h'
    have:=eqAt_V (A:=A) (s:=s) r r' rfl rfl
    simpa[eqD,eqV]using this
   | str y=>
    unfold Rep at h'
    subst h'
    have:=eqAt_V (A:=A) (s:=s) r r' rfl rfl
    simpa[eqD,eqV]using this
   | tup y=>
    unfold Rep at h'
    obtain⟨a,xs,rfl,_,q1,_⟩:=h'
    cases r'
    obtain⟨its,_,p,_⟩:=I.tuple q1
    cases r
    simp only[eqD]
    exact SeqAt.EqAt.none_tuple p hu
   | lst y=>
    unfold Rep at h'
    obtain⟨a,xs,rfl,_,q1,_⟩:=h'
    cases r'
    obtain⟨its,_,p,_⟩:=I.list q1
    cases r
    simp only[eqD]
    exact SeqAt.EqAt.none_list p.isList hu
  | bl x=>
   unfold Rep at h
   subst h
   cases e with
   | non=>
    unfold Rep at h'
    subst h'
    have:=eqAt_V (A:=A) (s:=s) r r' rfl rfl
    simpa[eqD,eqV]using this
   | bl y=>
    unfold Rep at h'
    subst h'
    have:=eqAt_V (A:=A) (s:=s) r r' rfl rfl
    simpa[eqD,eqV]using this
   | int y=>
    unfold Rep at h'
    subst h'
    have:=eqAt_V (A:=A) (s:=s) r r' rfl rfl
    simpa[eqD,eqV]using this
   | str y=>
    unfold Rep at h'
    subst h'
    have:=eqAt_V (A:=A) (s:=s) r r' rfl rfl
    simpa[eqD,eqV]using this
   | tup y=>
    unfold Rep at h'
    obtain⟨a,xs,rfl,_,q1,_⟩:=h'
    cases r'
    obtain⟨its,_,p,_⟩:=I.tuple q1
    cases r
    simp only[eqD]
    exact SeqAt.EqAt.bool_tuple x p hu
   | lst y=>
    unfold Rep at h'
    obtain⟨a,xs,rfl,_,q1,_⟩:=h'
    cases r'
    obtain⟨its,_,p,_⟩:=I.list q1
    cases r
    simp only[eqD]
    exact SeqAt.EqAt.bool_list x p.isList hu
  | int x=>
   unfold Rep at h
   subst h
   cases e with
   | non=>
    unfold Rep at h'
    subst h'
    have:=eqAt_V (A:=A) (s:=s) r r' rfl rfl
    simpa[eqD,eqV]using this
   | bl y=>
    unfold Rep at h'
    subst h'
    have:=eqAt_V (A:=A) (s:=s) r r' rfl rfl
    simpa[eqD,eqV]using this
   | int y=>
    unfold Rep at h'
    subst h'
    have:=eqAt_V (A:=A) (s:=s) r r' rfl rfl
    simpa[eqD,eqV]using this
   | str y=>
    unfold Rep at h'
    subst h'
    have:=eqAt_V (A:=A) (s:=s) r r' rfl rfl
    simpa[eqD,eqV]using this
   | tup y=>
    unfold Rep at h'
    obtain⟨a,xs,rfl,_,q1,_⟩:=h'
    cases r'
    obtain⟨its,_,p,_⟩:=I.tuple q1
    obtain⟨t,rfl⟩:=r
    simp only[eqD]
    exact SeqAt.EqAt.int_tuple x t p hu
   | lst y=>
    unfold Rep at h'
    obtain⟨a,xs,rfl,_,q1,_⟩:=h'
    cases r'
    obtain⟨its,_,p,_⟩:=I.list q1
    obtain⟨t,rfl⟩:=r
    simp only[eqD]
    exact SeqAt.EqAt.int_list x t p.isList hu
  | str x=>
   unfold Rep at h
   subst h
   cases e with
   | non=>
    unfold Rep at h'
    subst h'
    have:=eqAt_V (A:=A) (s:=s) r r' rfl rfl
    simpa[eqD,eqV]using this
   | bl y=>
    unfold Rep at h'
    subst h'
    have:=eqAt_V (A:=A) (s:=s) r r' rfl rfl
    simpa[eqD,eqV]using this
   | int y=>
    unfold Rep at h'
    subst h'
    have:=eqAt_V (A:=A) (s:=s) r r' rfl rfl
    simpa[eqD,eqV]using this
   | str y=>
    unfold Rep at h'
    subst h'
    have:=eqAt_V (A:=A) (s:=s) r r' rfl rfl
    simpa[eqD,eqV]using this
   | tup y=>
    unfold Rep at h'
    obtain⟨a,xs,rfl,_,q1,_⟩:=h'
    cases r'
    obtain⟨its,_,p,_⟩:=I.tuple q1
    obtain⟨t,rfl⟩:=r
    simp only[eqD]
    exact SeqAt.EqAt.str_tuple x t p hu
   | lst y=>
    unfold Rep at h'
    obtain⟨a,xs,rfl,_,q1,_⟩:=h'
    cases r'
    obtain⟨its,_,p,_⟩:=I.list q1
    obtain⟨t,rfl⟩:=r
    simp only[eqD]
    exact SeqAt.EqAt.str_list x t p.isList hu
  | tup l=>
   have h0:=h
   unfold Rep at h
   obtain⟨a,xs,rfl,na,q1,q2⟩:=h
   cases r
   obtain⟨its,r1,p1,_⟩:=I.tuple q1
   have hd':depL l<=k:=by simp only[Dt.dep]at hd;omega
   cases e with
   | non=>
    unfold Rep at h'
    subst h'
    cases r'
    simp only[eqD]
    exact SeqAt.EqAt.tuple_none p1 hu
   | bl y=>
    unfold Rep at h'
    subst h'
    cases r'
    simp only[eqD]
    exact SeqAt.EqAt.tuple_bool y p1 hu
   | int y=>
    unfold Rep at h'
    subst h'
    obtain⟨t,rfl⟩:=r'
    simp only[eqD]
    exact SeqAt.EqAt.tuple_int y t p1 hu
   | str y=>
    unfold Rep at h'
    subst h'
    obtain⟨t,rfl⟩:=r'
    simp only[eqD]
    exact SeqAt.EqAt.tuple_str y t p1 hu
   | tup q=>
    have h0':=h'
    unfold Rep at h'
    obtain⟨b,ys,rfl,nb,k1,k2⟩:=h'
    cases r'
    obtain⟨its2,r2,p2,_⟩:=I.tuple k1
    by_cases hab:a=b
    ·subst hab
     have:=Rep.inj I h0 h0'
     rw[<-this,eqD_self]
     exact SeqAt.EqAt.same _
    ·refine SeqAt.EqAt.of_refs hab ?_
     simp only[eqD]
     have:=SeqAt.RcAt.tuples (A:=A) (s:=s) p1 p2 hu (items_eq (A:=A.in1) (λ d e=>ih A.in1 hA' d e) hd' q2 k2 r1 r2)
     rw[eq_tup_val q2 k2 r1 r2]at this
     exact this
   | lst q=>
    have h0':=h'
    unfold Rep at h'
    obtain⟨b,ys,rfl,nb,k1,k2⟩:=h'
    cases r'
    obtain⟨its2,r2,p2,_⟩:=I.list k1
    simp only[eqD]
    exact SeqAt.EqAt.tuple_list p1 p2.isList hu
  | lst l=>
   have h0:=h
   unfold Rep at h
   obtain⟨a,xs,rfl,na,q1,q2⟩:=h
   cases r
   obtain⟨its,r1,p1,_⟩:=I.list q1
   have hd':depL l<=k:=by simp only[Dt.dep]at hd;omega
   cases e with
   | non=>
    unfold Rep at h'
    subst h'
    cases r'
    simp only[eqD]
    exact SeqAt.EqAt.list_none p1.isList hu
   | bl y=>
    unfold Rep at h'
    subst h'
    cases r'
    simp only[eqD]
    exact SeqAt.EqAt.list_bool y p1.isList hu
   | int y=>
    unfold Rep at h'
    subst h'
    obtain⟨t,rfl⟩:=r'
    simp only[eqD]
    exact SeqAt.EqAt.list_int y t p1.isList hu
   | str y=>
    unfold Rep at h'
    subst h'
    obtain⟨t,rfl⟩:=r'
    simp only[eqD]
    exact SeqAt.EqAt.list_str y t p1.isList hu
   | tup q=>
    have h0':=h'
    unfold Rep at h'
    obtain⟨b,ys,rfl,nb,k1,k2⟩:=h'
    cases r'
    obtain⟨its2,r2,p2,_⟩:=I.tuple k1
    simp only[eqD]
    exact SeqAt.EqAt.list_tuple p1.isList p2 hu
   | lst q=>
    have h0':=h'
    unfold Rep at h'
    obtain⟨b,ys,rfl,nb,k1,k2⟩:=h'
    cases r'
    obtain⟨its2,r2,p2,_⟩:=I.list k1
    by_cases hab:a=b
    ·subst hab
     have:=Rep.inj I h0 h0'
     rw[<-this,eqD_self]
     exact SeqAt.EqAt.same _
    ·refine SeqAt.EqAt.of_refs hab ?_
     simp only[eqD]
     have n1:l.length=its.toArray.size:=by simpa using q2.length.trans r1.length
     have n2:q.length=its2.toArray.size:=by simpa using k2.length.trans r2.length
     by_cases hn:l.length=q.length
     ·have:=SeqAt.RcAt.lists (A:=A) (s:=s) p1.isList p2.isList (by rw[<-n1,<-n2];exact hn) hu (items_eq (A:=A.in1) (λ d e=>ih A.in1 hA' d e) hd' q2 k2 r1 r2)
      rw[<-n1,<-eqDL_range hn]at this
      exact this
     ·rw[eqDL_len hn]
      refine SeqAt.RcAt.lists_lengths p1.isList p2.isList ?_ hu
      rw[<-n1,<-n2]
      simpa using hn
def rEqD (K:PySem.W.Frag)(neg:Bool):R2:=λ x y H Q=>∃ (N N':Addr->Prop) (l q:List Dt) (c:Bool),(Rep K N H (if c then .tup l else .lst l) x/\Rep K N' H (if c then .tup q else .lst q) y)/\depL l<=20/\Q (.bl (if neg then !eqDL l q else eqDL l q)) H
theorem op_eqD (hu:X.A.units+30 < cLine):OpR X (compareOp .Eq) (rEqD X.K false):=by
 intro pins s σ H x y v u Q I rx ry h
 obtain⟨N,N',l,q,c,⟨h1,h2⟩,hd,hq⟩:=h
 have hu0:X.A.units < cLine:=by omega
 have hu1:X.A.in1.units+20 < cLine:=by have:X.A.in1.units=X.A.units+1:=rfl;omega
 cases c with
 | true=>
  simp only[if_true]at h1 h2
  unfold Rep at h1 h2
  obtain⟨a,xs,rfl,_,q1,q2⟩:=h1
  obtain⟨b,ys,rfl,_,k1,k2⟩:=h2
  cases rx
  cases ry
  obtain⟨its,r1,p1,_⟩:=I.tuple q1
  obtain⟨its2,r2,p2,_⟩:=I.tuple k1
  have:=SeqAt.RcAt.tuples (A:=X.A) (s:=s) p1 p2 hu0 (items_eq (A:=X.A.in1) (λ d e=>eqAt_D I 20 X.A.in1 hu1 d e) hd q2 k2 r1 r2)
  rw[eq_tup_val q2 k2 r1 r2]at this
  exact this X.prog X.w _ _ ⟨.bl _,H,I,rfl,hq⟩
 | false=>
  simp only[Bool.false_eq_true,if_false]at h1 h2
  unfold Rep at h1 h2
  obtain⟨a,xs,rfl,_,q1,q2⟩:=h1
  obtain⟨b,ys,rfl,_,k1,k2⟩:=h2
  cases rx
  cases ry
  obtain⟨its,r1,p1,_⟩:=I.list q1
  obtain⟨its2,r2,p2,_⟩:=I.list k1
  have n1:l.length=its.toArray.size:=by simpa using q2.length.trans r1.length
  have n2:q.length=its2.toArray.size:=by simpa using k2.length.trans r2.length
  by_cases hn:l.length=q.length
  ·have:=SeqAt.RcAt.lists (A:=X.A) (s:=s) p1.isList p2.isList (by rw[<-n1,<-n2];exact hn) hu0 (items_eq (A:=X.A.in1) (λ d e=>eqAt_D I 20 X.A.in1 hu1 d e) hd q2 k2 r1 r2)
   rw[<-n1,<-eqDL_range hn]at this
   exact this X.prog X.w _ _ ⟨.bl _,H,I,rfl,hq⟩
  ·simp only[eqDL_len hn]at hq
   exact SeqAt.RcAt.lists_lengths p1.isList p2.isList (by rw[<-n1,<-n2];simpa using hn) hu0 X.prog X.w _ _ ⟨.bl _,H,I,rfl,hq⟩
theorem op_neD (hu:X.A.units+30 < cLine):OpR X (compareOp .NotEq) (rEqD X.K true):=by
 intro pins s σ H x y v u Q I rx ry h
 obtain⟨N,N',l,q,c,⟨h1,h2⟩,hd,hq⟩:=h
 have hu0:X.A.units < cLine:=by omega
 have hu1:X.A.in1.units+20 < cLine:=by have:X.A.in1.units=X.A.units+1:=rfl;omega
 cases c with
 | true=>
  simp only[if_true]at h1 h2
  unfold Rep at h1 h2
  obtain⟨a,xs,rfl,_,q1,q2⟩:=h1
  obtain⟨b,ys,rfl,_,k1,k2⟩:=h2
  cases rx
  cases ry
  obtain⟨its,r1,p1,_⟩:=I.tuple q1
  obtain⟨its2,r2,p2,_⟩:=I.tuple k1
  have:=SeqAt.RcNeAt.tuples (A:=X.A) (s:=s) p1 p2 hu0 (items_eq (A:=X.A.in1) (λ d e=>eqAt_D I 20 X.A.in1 hu1 d e) hd q2 k2 r1 r2)
  rw[eq_tup_val q2 k2 r1 r2]at this
  exact this X.prog X.w _ _ ⟨.bl _,H,I,rfl,hq⟩
 | false=>
  simp only[Bool.false_eq_true,if_false]at h1 h2
  unfold Rep at h1 h2
  obtain⟨a,xs,rfl,_,q1,q2⟩:=h1
  obtain⟨b,ys,rfl,_,k1,k2⟩:=h2
  cases rx
  cases ry
  obtain⟨its,r1,p1,_⟩:=I.list q1
  obtain⟨its2,r2,p2,_⟩:=I.list k1
  have n1:l.length=its.toArray.size:=by simpa using q2.length.trans r1.length
  have n2:q.length=its2.toArray.size:=by simpa using k2.length.trans r2.length
  by_cases hn:l.length=q.length
  ·have:=SeqAt.RcNeAt.lists (A:=X.A) (s:=s) p1.isList p2.isList (by rw[<-n1,<-n2];exact hn) hu0 (items_eq (A:=X.A.in1) (λ d e=>eqAt_D I 20 X.A.in1 hu1 d e) hd q2 k2 r1 r2)
   rw[<-n1,<-eqDL_range hn]at this
   exact this X.prog X.w _ _ ⟨.bl _,H,I,rfl,hq⟩
  ·simp only[eqDL_len hn]at hq
   exact SeqAt.RcNeAt.lists_lengths p1.isList p2.isList (by rw[<-n1,<-n2];simpa using hn) hu0 X.prog X.w _ _ ⟨.bl _,H,I,rfl,hq⟩
end
end L2
namespace L2
open PySem PySem.Spec PyProof.Rows
theorem SrcOk.any {X:Cx}{scope:Scope}:∀ {l:List (Str × Option Nat)},SrcOk X scope l->∀ {x:Str},(l.any λ p=>p.1 == x && p.2.isSome)=true->X.env.kindOf x=some .cell∨X.env.kindOf x=some .free
 | [],_,x,e=>by simp at e
 | (y,none) :: r,h,x,e=>SrcOk.any (l:=r) h (by simpa using e)
 | (y,some k) :: r,h,x,e=>by
  rw[List.any_cons,Bool.or_eq_true]at e
  rcases e with e|e
  ·have:y=x:=by simpa using e
   subst this
   exact h.1.2.2
  ·exact SrcOk.any (l:=r) h.2 e
theorem CompScope.of {X:Cx}{scope:Scope}{l:List (Str × Option Nat)}(hk:scope.kind=.function)(hc:∀ y∈scope.names,y.2=.cell->scope.names.lookup y.1=some .cell)(hn:∀ y∈scope.names,y.2=.local->scope.names.lookup y.1=some .local)
  (hf:∀ y∈scope.names,y.2=.free->(l.any λ p=>p.1 == y.1 && p.2.isSome)=true) (hs:SrcOk X scope l):CompScope X scope l:=⟨hk,hc,hn,λ y hy hyf=>hs.any (hf y hy hyf),hs⟩
theorem fit9 {i:Int}(h:Fit 64 i):Fit 9000 i:=h.mono (by decide)
end L2
namespace L2
open PySem PySem.Spec PyProof.Rows
def ItK (c:Bool)(h:Heap)(i l:Addr)(k:Nat):Prop:=if c=true then h.IsTupleIter i l k else h.IsListIter i l k
def SeqK (c:Bool)(h:Heap)(l:Addr)(xs:Array Value):Prop:=if c=true then h.IsTuple l xs else h.IsList l xs
theorem ItK.at {c:Bool}{h h':Heap}{i l:Addr}{k:Nat}(x:ItK c h i l k)(e:∀ o,h.get? i=some o->h'.get? i=some o):ItK c h' i l k:=by
 cases c with
 | true=>obtain⟨o,ho,r⟩:=(show h.IsTupleIter i l k from x);exact(show h'.IsTupleIter i l k from⟨o,e o ho,r⟩)
 | false=>obtain⟨o,ho,r⟩:=(show h.IsListIter i l k from x);exact(show h'.IsListIter i l k from⟨o,e o ho,r⟩)
theorem SeqK.at {c:Bool}{h h':Heap}{l:Addr}{xs:Array Value}(x:SeqK c h l xs)(e:∀ o,h.get? l=some o->h'.get? l=some o):SeqK c h' l xs:=by
 cases c with
 | true=>obtain⟨o,ho,r⟩:=(show h.IsTuple l xs from x);exact(show h'.IsTuple l xs from⟨o,e o ho,r⟩)
 | false=>obtain⟨o,ho,r⟩:=(show h.IsList l xs from x);exact(show h'.IsList l xs from⟨o,e o ho,r⟩)
theorem ItK.obj {c:Bool}{h:Heap}{i l:Addr}{k:Nat}(x:ItK c h i l k):∃ o,h.get? i=some o/\∀ v,o.data≠.cell v:=by
 cases c with
 | true=>obtain⟨o,ho,_,d⟩:=(show h.IsTupleIter i l k from x);exact⟨o,ho,λ v z=>by rw[d]at z;cases z⟩
 | false=>obtain⟨o,ho,_,d⟩:=(show h.IsListIter i l k from x);exact⟨o,ho,λ v z=>by rw[d]at z;cases z⟩
section
variable {prog:Program}{w:World}{A:Around}{E:Value->Shared->Prop}{s:Shared}
theorem nxK_item {c:Bool}{i l:Addr}{k:Nat}{xs:Array Value}{v:Value}{Q:Value->Shared->Prop}(hi:ItK c s.heap i l k)(hl:SeqK c s.heap l xs)(hx:xs[k]? = some v)
  (hQ:∀ h',ItK c h' i l (k+1)->Heap.SameBut i s.heap h'->Q v { s with heap:=h' }):wpAny (model prog w) A (Builtin.SmallTypes.nextOf (.ref i)) Q E s:=by
 cases c with
 | false=>exact wpAny_nextOf_list_item hi hl hx hQ
 | true=>
  have hi':s.heap.IsTupleIter i l k:=hi
  obtain⟨o1,g1,g2,g3⟩:=id hi'
  obtain⟨o2,f1,_,n2,f3⟩:=(show s.heap.IsTuple l xs from hl)
  unfold Builtin.SmallTypes.nextOf
  refine wpAny_bind (wpAny_callSpecial?_slot (name:=Str.ofString "__next__") hi'.typeIs F.slot_tuple_iterator_next (wpAny_call_entry F.slot_tuple_iterator_next hi'.typeIs F.entry_tuple_iterator_next ?_ (F.args_tuple_iterator_next_1 _)))
  show wpAny _ _ (field (.ref i) 0 >>= _) _ _ s
  refine wpAny_bind (wpAny_field g1 g3 (x:=.ref l) rfl ?_)
  show wpAny _ _ (if (Value.ref l == Value.none)=true then _ else _) _ _ s
  rw[if_neg (show ¬ ((Value.ref l == Value.none)=true) from Bool.false_ne_true)]
  show wpAny _ _ (field (.ref i) 1 >>= _) _ _ s
  refine wpAny_bind (wpAny_field g1 g3 (x:=.int k 0) rfl ?_)
  show wpAny _ _ (seqItems? (.ref l) >>= _) _ _ s
  refine wpAny_bind (wpAny_seqItems f1 f3 ?_)
  simp only[Int.toNat_natCast,hx]
  refine wpAny_bind (wpAny_setField g1 g3 (by simp) (wpAny_pure ⟨v,rfl,wpAny_pure (hQ _ (show Heap.IsTupleIter _ i l (k+1) from ?_) (Heap.SameBut.update ..))⟩))
  refine⟨_,Heap.get?_update_self _ g1 (Obj.isFreed_of_fields (Obj.data_mapFields g3 _)),(Obj.cls_mapFields ..).trans g2,?_⟩
  rw[Obj.data_mapFields g3]
  simp[rawInt]
theorem nxK_end {c:Bool}{i l:Addr}{k:Nat}{xs:Array Value}{Q:Value->Shared->Prop}(hh:A.handled=none)(hi:ItK c s.heap i l k)(hl:SeqK c s.heap l xs)(hx:xs[k]? = none)
  (hE:∀ h' e,Heap.ExtBut i s.heap h'->(∃ o,h'.get? e=some o/\o.cls=.type "StopIteration")->E (.ref e) { s with heap:=h' }):wpAny (model prog w) A (Builtin.SmallTypes.nextOf (.ref i)) Q E s:=by
 cases c with
 | false=>exact wpAny_nextOf_list_end hh hi hl hx hE
 | true=>
  have hi':s.heap.IsTupleIter i l k:=hi
  obtain⟨o1,g1,g2,g3⟩:=id hi'
  obtain⟨o2,f1,_,n2,f3⟩:=(show s.heap.IsTuple l xs from hl)
  unfold Builtin.SmallTypes.nextOf
  refine wpAny_bind (wpAny_callSpecial?_slot (name:=Str.ofString "__next__") hi'.typeIs F.slot_tuple_iterator_next (wpAny_call_entry F.slot_tuple_iterator_next hi'.typeIs F.entry_tuple_iterator_next ?_ (F.args_tuple_iterator_next_1 _)))
  show wpAny _ _ (field (.ref i) 0 >>= _) _ _ s
  refine wpAny_bind (wpAny_field g1 g3 (x:=.ref l) rfl ?_)
  show wpAny _ _ (if (Value.ref l == Value.none)=true then _ else _) _ _ s
  rw[if_neg (show ¬ ((Value.ref l == Value.none)=true) from Bool.false_ne_true)]
  show wpAny _ _ (field (.ref i) 1 >>= _) _ _ s
  refine wpAny_bind (wpAny_field g1 g3 (x:=.int k 0) rfl ?_)
  show wpAny _ _ (seqItems? (.ref l) >>= _) _ _ s
  refine wpAny_bind (wpAny_seqItems f1 f3 ?_)
  simp only[Int.toNat_natCast,hx]
  refine wpAny_bind (wpAny_rule (wpAny_bind (wpAny_setField g1 g3 (by simp) ?_)))
  show wpAny _ _ (newExc (.type "StopIteration") [] >>= _) _ _ _
  refine wpAny_bind ?_
  simp only[newExc,newTuple]
  refine wpAny_bind (wpAny_newObj_type ?_ (by size_fits))
  refine wpAny_bind (m:=firstArgMember _ _) (wpAny_of_eq (a:=Value.none) (by first|rfl|(simp only[firstArgMember];rfl)) ?_)
  refine wpAny_newObj_type ?_ (by size_fits)
  simp only[raiseNew]
  refine wpAny_bind (wpAny_handled ?_)
  first|rw[show A.in1.handled=none from hh]|rw[hh]
  refine wpAny_bind (wpAny_pure (wpAny_throw ?_))
  exact hE _ _ (((Heap.SameBut.update ..).extBut.push _).push _) ⟨_,Heap.get?_push_size _ rfl,rfl⟩
structure ZK (c1 c2:Bool)(h:Heap)(z a b i j l m:Addr)(k:Nat):Prop where
 zz:IsZip h z a b .none
 ins:IsPair h a (.ref i) (.ref j)
 out:∃ x y,IsPair h b x y
 i1:ItK c1 h i l k
 i2:ItK c2 h j m k
theorem zK_item {c1 c2:Bool}{z a b i j l m:Addr}{k:Nat}{xs ys:Array Value}{x y:Value}{Q:Option Value->Shared->Prop}(D:ZipApart z a b i j l m)(Z:ZK c1 c2 s.heap z a b i j l m k)
  (hl1:SeqK c1 s.heap l xs) (hl2:SeqK c2 s.heap m ys) (hx:xs[k]? = some x) (hy:ys[k]? = some y)
  (hQ:∀ h',IsZip h' z a b (rawInt s.heap.objs.size)->IsPair h' a (.ref i) (.ref j)->IsPair h' b x y->ItK c1 h' i l (k+1)->ItK c2 h' j m (k+1)->IsPair h' s.heap.objs.size x y->
   (∀ d o,d≠z->d≠b->d≠i->d≠j->s.heap.get? d=some o->h'.get? d=some o)->Q (some (.ref s.heap.objs.size)) { s with heap:=h' }) :
  wpAny (model prog w) A (pyNext (.ref z)) Q E s:=by
 obtain⟨hz,hTI,⟨p1,p2,hTO⟩,h1,h2⟩:=Z
 have hT:s.TypeIs (.ref z) "zip":=⟨_,hz,rfl⟩
 unfold pyNext
 refine wpAny_bind (wpAny_attempt (wpAny_callSpecial?_slot (name:=Str.ofString "__next__") hT F.slot_zip_next (wpAny_call_entry F.slot_zip_next hT F.entry_zip_next ?_ (F.args_zip_next_1 _))))
 show wpAny _ _ (field (.ref z) 2 >>= _) _ _ _
 refine wpAny_bind (wpAny_field hz rfl (x:=.bool false) rfl ?_)
 show wpAny _ _ (field (.ref z) 3 >>= _) _ _ _
 refine wpAny_bind (wpAny_field hz rfl (x:=.ref a) rfl ?_)
 refine wpAny_bind (wpAny_seqItems hTI rfl ?_)
 show wpAny _ _ (Builtin.SmallTypes.ownedTupleIsFree (.ref z) >>= _) _ _ _
 refine wpAny_bind ?_
 unfold Builtin.SmallTypes.ownedTupleIsFree
 refine wpAny_bind (wpAny_field hz rfl (x:=.none) rfl (wpAny_pure ?_))
 simp only[if_true]
 refine wpAny_bind (wpAny_rule ?_)
 refine wpAny_bind (wpAny_field hz rfl (x:=.ref b) rfl ?_)
 refine wpAny_bind (wpAny_setField_rec hz (by simp) λ q1 z1 t1=>?_)
 replace z1:IsZip q1 z a b .ellipsis:=z1
 refine wpAny_bind ?_
 simp only[List.zipIdx_cons,List.zipIdx_nil,List.forIn_cons,List.forIn_nil]
 refine wpAny_bind (wpAny_bind (wpAny_onRaise ?_))
 show wpAny _ _ (Builtin.SmallTypes.nextOf (.ref i) >>= _) _ _ _
 refine wpAny_bind (nxK_item (s:={ s with heap:=q1 }) (h1.at λ o e=>t1.extBut _ _ D.i1z e) (hl1.at λ o e=>t1.extBut _ _ D.l1z e) hx λ q2 i2 t2=>wpAny_pure ?_)
 have b2:IsPair q2 b p1 p2:=t2.extBut _ _ D.TOi1 (t1.extBut _ _ D.TOz hTO)
 refine wpAny_bind (wpAny_seqItems b2 rfl ?_)
 refine wpAny_bind (wpAny_updateSeq_pair b2 λ q3 b3 t3=>?_)
 replace b3:IsPair q3 b x p2:=b3
 refine wpAny_bind (wpAny_letGo (wpAny_pure ?_))
 refine wpAny_bind (wpAny_bind (wpAny_onRaise ?_))
 show wpAny _ _ (Builtin.SmallTypes.nextOf (.ref j) >>= _) _ _ _
 refine wpAny_bind (nxK_item (s:={ s with heap:=q3 }) (h2.at λ o e=>t3.extBut _ _ D.TOi2.symm (t2.extBut _ _ D.i12.symm (t1.extBut _ _ D.i2z e)))
  (hl2.at λ o e=>t3.extBut _ _ D.l2TO (t2.extBut _ _ D.l2i1 (t1.extBut _ _ D.l2z e))) hy λ q4 j4 t4=>wpAny_pure ?_)
 have b4:IsPair q4 b x p2:=t4.extBut _ _ D.TOi2 b3
 refine wpAny_bind (wpAny_seqItems b4 rfl ?_)
 refine wpAny_bind (wpAny_updateSeq_pair b4 λ q5 b5 t5=>?_)
 replace b5:IsPair q5 b x y:=b5
 refine wpAny_bind (wpAny_letGo (wpAny_pure (wpAny_pure ?_)))
 refine wpAny_bind (wpAny_seqItems b5 rfl ?_)
 refine wpAny_bind (wpAny_newTuple ?_)
 have hsz:q5.objs.size=s.heap.objs.size:=by rw[t5.1,t4.1,t3.1,t2.1,t1.1]
 have z5:IsZip q5 z a b .ellipsis:=t5.extBut _ _ D.TOz.symm (t4.extBut _ _ D.i2z.symm (t3.extBut _ _ D.TOz.symm (t2.extBut _ _ D.i1z.symm z1)))
 have k5:∀ d o,d≠z->d≠b->d≠i->d≠j->s.heap.get? d=some o->q5.get? d=some o:=λ d o e1 e2 e3 e4 e=>
  t5.extBut _ _ e2 (t4.extBut _ _ e4 (t3.extBut _ _ e2 (t2.extBut _ _ e3 (t1.extBut _ _ e1 e))))
 have i5:ItK c1 q5 i l (k+1):=i2.at λ o e=>t5.extBut _ _ D.TOi1.symm (t4.extBut _ _ D.i12 (t3.extBut _ _ D.TOi1.symm e))
 have j5:ItK c2 q5 j m (k+1):=j4.at λ o e=>t5.extBut _ _ D.TOi2.symm e
 have zlt:z < q5.objs.size:=Heap.lt_size z5
 show wpAny _ _ (Builtin.SmallTypes.ownedTupleHandOut (.ref z) (.ref q5.objs.size) >>= _) _ _ _
 refine wpAny_bind ?_
 unfold Builtin.SmallTypes.ownedTupleHandOut
 have z6:IsZip (q5.push { cls:=.type "tuple",data:=.seq #[x,y] }) z a b .ellipsis:=Heap.get?_push_of_some _ z5
 refine wpAny_bind (wpAny_setField_rec z6 (by simp) λ q7 z7 t7=>?_)
 replace z7:IsZip q7 z a b (rawInt q5.objs.size):=z7
 refine wpAny_setField_rec z7 (by simp) λ q8 z8 t8=>?_
 replace z8:IsZip q8 z a b (rawInt q5.objs.size):=z8
 have up:∀ d o,d≠z->q5.get? d=some o->q8.get? d=some o:=λ d o e1 e=>t8.extBut _ _ e1 (t7.extBut _ _ e1 (Heap.get?_push_of_some _ e))
 have T8:IsPair q8 q5.objs.size x y:=t8.extBut _ _ (Nat.ne_of_gt zlt) (t7.extBut _ _ (Nat.ne_of_gt zlt) (Heap.get?_push_size _ rfl))
 rw[hsz]at z8 T8
 refine wpAny_pure ⟨_,rfl,wpAny_pure ?_⟩
 show Q (some (.ref q5.objs.size)) _
 rw[hsz]
 exact hQ q8 z8 (up _ _ D.TIz (k5 _ _ D.TIz D.TITO D.TIi1 D.TIi2 hTI)) (up _ _ D.TOz b5) (i5.at λ o e=>up _ o D.i1z e) (j5.at λ o e=>up _ o D.i2z e) T8 λ d o e1 e2 e3 e4 e=>up d o e1 (k5 d o e1 e2 e3 e4 e)
theorem zK_end {c1 c2:Bool}{z a b i j l m:Addr}{k:Nat}{xs ys:Array Value}{Q:Option Value->Shared->Prop}(hh:A.handled=none)(D:ZipApart z a b i j l m)(Z:ZK c1 c2 s.heap z a b i j l m k)
  (hl1:SeqK c1 s.heap l xs) (hl2:SeqK c2 s.heap m ys) (hend:xs[k]? = none∨ys[k]? = none)
  (hQ:∀ h',(∀ d o,d≠z->d≠b->d≠i->d≠j->s.heap.get? d=some o->h'.get? d=some o)->Q none { s with heap:=h' }):wpAny (model prog w) A (pyNext (.ref z)) Q E s:=by
 obtain⟨hz,hTI,⟨p1,p2,hTO⟩,h1,h2⟩:=Z
 have hT:s.TypeIs (.ref z) "zip":=⟨_,hz,rfl⟩
 unfold pyNext
 have last:∀ h' e,(∀ d o,d≠z->d≠b->d≠i->d≠j->s.heap.get? d=some o->h'.get? d=some o)->(∃ o,h'.get? e=some o/\o.cls=.type "StopIteration")->
   wpAny (model prog w) A (do if <-isInstance (.ref e) (.type "StopIteration") then pure none else throw (.ref e):Sem (Option Value)) Q E { s with heap:=h' }:=λ h' e hk ⟨o,ho,hc⟩=>
  wpAny_bind (wpAny_isInstance (T:="StopIteration") (b:=true) ⟨o,ho,hc⟩ isSubtype_stop (wpAny_pure (hQ h' hk)))
 refine wpAny_bind (wpAny_attempt (wpAny_callSpecial?_slot (name:=Str.ofString "__next__") hT F.slot_zip_next (wpAny_call_entry F.slot_zip_next hT F.entry_zip_next ?_ (F.args_zip_next_1 _))))
 show wpAny _ _ (field (.ref z) 2 >>= _) _ _ _
 refine wpAny_bind (wpAny_field hz rfl (x:=.bool false) rfl ?_)
 show wpAny _ _ (field (.ref z) 3 >>= _) _ _ _
 refine wpAny_bind (wpAny_field hz rfl (x:=.ref a) rfl ?_)
 refine wpAny_bind (wpAny_seqItems hTI rfl ?_)
 show wpAny _ _ (Builtin.SmallTypes.ownedTupleIsFree (.ref z) >>= _) _ _ _
 refine wpAny_bind ?_
 unfold Builtin.SmallTypes.ownedTupleIsFree
 refine wpAny_bind (wpAny_field hz rfl (x:=.none) rfl (wpAny_pure ?_))
 simp only[if_true]
 refine wpAny_bind (wpAny_rule ?_)
 refine wpAny_bind (wpAny_field hz rfl (x:=.ref b) rfl ?_)
 refine wpAny_bind (wpAny_setField_rec hz (by simp) λ q1 z1 t1=>?_)
 replace z1:IsZip q1 z a b .ellipsis:=z1
 refine wpAny_bind ?_
 simp only[List.zipIdx_cons,List.zipIdx_nil,List.forIn_cons,List.forIn_nil]
 refine wpAny_bind (wpAny_bind (wpAny_onRaise ?_))
 show wpAny _ _ (Builtin.SmallTypes.nextOf (.ref i) >>= _) _ _ _
 cases hx:xs[k]? with
 | none=>
  refine wpAny_bind (nxK_end (s:={ s with heap:=q1 }) hh (h1.at λ o e=>t1.extBut _ _ D.i1z e) (hl1.at λ o e=>t1.extBut _ _ D.l1z e) hx λ q2 e t2 he=>?_)
  obtain⟨oe,hoe,hce⟩:=he
  have z2:IsZip q2 z a b .ellipsis:=t2 _ _ D.i1z.symm z1
  have hez:e≠z:=λ x=>by subst x;rw[z2]at hoe;cases hoe;simp at hce
  refine wpAny_setField_rec z2 (by simp) λ q3 _ t3=>?_
  exact last q3 e (λ d o e1 _ e3 _ x=>t3.extBut _ _ e1 (t2 _ _ e3 (t1.extBut _ _ e1 x))) ⟨oe,t3.extBut _ _ hez hoe,hce⟩
 | some x=>
  have hy:ys[k]? = none:=by
   rcases hend with h|h
   ·rw[hx]at h;cases h
   ·exact h
  refine wpAny_bind (nxK_item (s:={ s with heap:=q1 }) (h1.at λ o e=>t1.extBut _ _ D.i1z e) (hl1.at λ o e=>t1.extBut _ _ D.l1z e) hx λ q2 i2 t2=>wpAny_pure ?_)
  have b2:IsPair q2 b p1 p2:=t2.extBut _ _ D.TOi1 (t1.extBut _ _ D.TOz hTO)
  refine wpAny_bind (wpAny_seqItems b2 rfl ?_)
  refine wpAny_bind (wpAny_updateSeq_pair b2 λ q3 b3 t3=>?_)
  refine wpAny_bind (wpAny_letGo (wpAny_pure ?_))
  refine wpAny_bind (wpAny_bind (wpAny_onRaise ?_))
  show wpAny _ _ (Builtin.SmallTypes.nextOf (.ref j) >>= _) _ _ _
  refine wpAny_bind (nxK_end (s:={ s with heap:=q3 }) hh (h2.at λ o e=>t3.extBut _ _ D.TOi2.symm (t2.extBut _ _ D.i12.symm (t1.extBut _ _ D.i2z e)))
   (hl2.at λ o e=>t3.extBut _ _ D.l2TO (t2.extBut _ _ D.l2i1 (t1.extBut _ _ D.l2z e))) hy λ q4 e t4 he=>?_)
  obtain⟨oe,hoe,hce⟩:=he
  have z4:IsZip q4 z a b .ellipsis:=t4 _ _ D.i2z.symm (t3.extBut _ _ D.TOz.symm (t2.extBut _ _ D.i1z.symm z1))
  have hez:e≠z:=λ x=>by subst x;rw[z4]at hoe;cases hoe;simp at hce
  refine wpAny_setField_rec z4 (by simp) λ q5 _ t5=>?_
  exact last q5 e (λ d o e1 e2 e3 e4 x=>t5.extBut _ _ e1 (t4 _ _ e4 (t3.extBut _ _ e2 (t2.extBut _ _ e3 (t1.extBut _ _ e1 x))))) ⟨oe,t5.extBut _ _ hez hoe,hce⟩
theorem new_zipT (l m:Addr)(xs ys:Array Value) :
  Meets (Builtin.«zip.__new__» ⟨[.type "zip",.ref l,.ref m],[]⟩) (λ _ R s=>s.heap.IsTuple l xs/\s.heap.IsTuple m ys/\
   R (.ok (.ret (.ref (s.heap.objs.size+4)))) { s with heap:=((((s.heap.push { cls:=.type "tuple_iterator",data:=.fields #[.ref l,.int 0 0] }).push { cls:=.type "tuple_iterator",data:=.fields #[.ref m,.int 0 0] }).push
    { cls:=.type "tuple",data:=.seq #[.ref s.heap.objs.size,.ref (s.heap.objs.size+1)] }).push { cls:=.type "tuple",data:=.seq #[.none,.none] }).push { cls:=.type "zip",data:=.fields #[.none,.bool false,.bool false,.ref (s.heap.objs.size+2),.ref (s.heap.objs.size+3)] } }):=
 .of_wp λ prog w A R s h=>by
  obtain⟨hp,g,d,tk,os⟩:=s;obtain⟨hl1,hl2,h⟩:=h
  have hsub:=sub_zip
  have hL1:Heap.IsTuple (Shared.heap ⟨hp,g,d,tk,os⟩) l xs:=hl1
  have hL2:Heap.IsTuple (Shared.heap ⟨hp.push { cls:=.type "tuple_iterator",data:=.fields #[.ref l,.int 0 0] },g,d,tk,os⟩) m ys:=Heap.IsTuple.push hl2 _
  wp_walk using wpAny_pyIter_tuple hL1,wpAny_pyIter_tuple hL2
  simp only[Heap.size_push]at h ⊢
  exact⟨_,rfl,h⟩
theorem zip_made {c:Bool}{l m:Addr}{xs ys:Array Value}{Q:Value->Shared->Prop}(hl1:SeqK c s.heap l xs)(hl2:SeqK c s.heap m ys)
  (k:∀ h',ZK c c h' (s.heap.objs.size+4) (s.heap.objs.size+2) (s.heap.objs.size+3) s.heap.objs.size (s.heap.objs.size+1) l m 0->(∀ d o,s.heap.get? d=some o->h'.get? d=some o)->Q (.ref (s.heap.objs.size+4)) { s with heap:=h' }) :
  wpAny (model prog w) A (call (.type "zip") [.ref l,.ref m]) Q E s:=by
 cases c with
 | false=>exact call_zip_2 hl1 hl2 λ h' hz hTI hTO hi1 hi2 _ hk=>k h' ⟨hz,hTI,⟨_,_,hTO⟩,hi1,hi2⟩ hk
 | true=>
  refine callType_new F.called_zip (by decide) (F.typeCall_zip_2 _ _) (F.newCall_zip_2 _ _) (λ obj=>F.args_object_init_3 obj _ _) F.entry_zip_new (new_zipT l m xs ys) ⟨hl1,hl2,?_⟩
  have p:∀ (h:Heap) (o1 o2 o3 o4 o5:Obj) (d:Addr) (o:Obj),h.get? d=some o->(((((h.push o1).push o2).push o3).push o4).push o5).get? d=some o:=λ h o1 o2 o3 o4 o5 d o e=>
   Heap.get?_push_of_some _ (Heap.get?_push_of_some _ (Heap.get?_push_of_some _ (Heap.get?_push_of_some _ (Heap.get?_push_of_some _ e))))
  have q5:∀ (h:Heap) (o1 o2 o3 o4 o5:Obj),o5.isFreed=false->(((((h.push o1).push o2).push o3).push o4).push o5).get? (h.objs.size+4)=some o5:=λ h o1 o2 o3 o4 o5 f=>by
   have e:h.objs.size+4=((((h.push o1).push o2).push o3).push o4).objs.size:=by simp only[Heap.size_push]
   rw[e];exact Heap.get?_push_size _ f
  have q4:∀ (h:Heap) (o1 o2 o3 o4 o5:Obj),o4.isFreed=false->(((((h.push o1).push o2).push o3).push o4).push o5).get? (h.objs.size+3)=some o4:=λ h o1 o2 o3 o4 o5 f=>by
   have e:h.objs.size+3=(((h.push o1).push o2).push o3).objs.size:=by simp only[Heap.size_push]
   rw[e];exact Heap.get?_push_of_some _ (Heap.get?_push_size _ f)
  have q3:∀ (h:Heap) (o1 o2 o3 o4 o5:Obj),o3.isFreed=false->(((((h.push o1).push o2).push o3).push o4).push o5).get? (h.objs.size+2)=some o3:=λ h o1 o2 o3 o4 o5 f=>by
   have e:h.objs.size+2=((h.push o1).push o2).objs.size:=by simp only[Heap.size_push]
   rw[e];exact Heap.get?_push_of_some _ (Heap.get?_push_of_some _ (Heap.get?_push_size _ f))
  have q2:∀ (h:Heap) (o1 o2 o3 o4 o5:Obj),o2.isFreed=false->(((((h.push o1).push o2).push o3).push o4).push o5).get? (h.objs.size+1)=some o2:=λ h o1 o2 o3 o4 o5 f=>by
   have e:h.objs.size+1=(h.push o1).objs.size:=by simp only[Heap.size_push]
   rw[e];exact Heap.get?_push_of_some _ (Heap.get?_push_of_some _ (Heap.get?_push_of_some _ (Heap.get?_push_size _ f)))
  have q1:∀ (h:Heap) (o1 o2 o3 o4 o5:Obj),o1.isFreed=false->(((((h.push o1).push o2).push o3).push o4).push o5).get? h.objs.size=some o1:=λ h o1 o2 o3 o4 o5 f=>
   Heap.get?_push_of_some _ (Heap.get?_push_of_some _ (Heap.get?_push_of_some _ (Heap.get?_push_of_some _ (Heap.get?_push_size _ f))))
  exact⟨⟨_,q5 _ _ _ _ _ _ rfl,rfl⟩,k _ ⟨q5 _ _ _ _ _ _ rfl,q3 _ _ _ _ _ _ rfl,⟨_,_,q4 _ _ _ _ _ _ rfl⟩,⟨_,q1 _ _ _ _ _ _ rfl,rfl,rfl⟩,⟨_,q2 _ _ _ _ _ _ rfl,rfl,rfl⟩⟩ λ d o e=>p _ _ _ _ _ _ d o e⟩
end
def SqK (c:Bool)(K:PySem.W.Frag)(H:Hp)(a:Addr)(xs:List V):Prop:=if c=true then SqT K H a xs else SqL K H a xs
theorem Inv.sqK {X:Cx}{pins:List (Addr × Obj)}{σ:St}{H:Hp}{s:Shared}{c:Bool}{a:Addr}{xs:List V}(I:Inv X pins σ H s)(h:SqK c X.K H a xs):∃ its:List Value,Vals xs its/\SeqK c s.heap a its.toArray:=by
 cases c with
 | true=>obtain⟨its,r,p,_⟩:=I.tuple (show SqT X.K H a xs from h);exact⟨its,r,p⟩
 | false=>obtain⟨its,r,p,_⟩:=I.list (show SqL X.K H a xs from h);exact⟨its,r,p.isList⟩
theorem Inv.sqK_inj {X:Cx}{pins:List (Addr × Obj)}{σ:St}{H:Hp}{s:Shared}{c:Bool}{a:Addr}{xs ys:List V}(I:Inv X pins σ H s)(h:SqK c X.K H a xs)(k:SqK c X.K H a ys):xs=ys:=by
 cases c with
 | true=>exact I.tuple_inj (show SqT X.K H a xs from h) k
 | false=>exact I.list_inj (show SqL X.K H a xs from h) k
end L2
namespace L2
open PySem PySem.Spec PyProof.Rows
end L2
namespace L2
open PySem PySem.Spec PyProof.Rows
end L2
namespace L2
open PySem PySem.Spec PyProof.Rows
theorem SqT.const {K:PySem.W.Frag}{H:Hp}{a:Addr}{od:Option Addr}{its:Array Value}{n:Nat}{sl:Array (Option Value)}{xs:List V}(h:K.lookup a=some ⟨.type "tuple",od,.seq its n,sl⟩)(v:Vals xs its.toList)(hz:xs.length<=1000):SqT K H a xs:=
 .inr ⟨_,its,n,h,rfl,rfl,by
  have h2:xs.length=its.size:=v.length
  rw[<-h2]
  exact Nat.le_of_lt (small1000 hz),v⟩
end L2
namespace L2
open PySem PySem.Spec PyProof.Rows
open PySem.Builtin.Str in
def rSplit:V->List V->Hp->VK->Prop:=λ x vs H Q=>∃ t sep,x=.str t/\vs=[.str sep]/\(decide (t.length < sep.length) || decide (strKind t < strKind sep))=false/\(sep.length == 0)=false/\(occurrences t sep 0 t.length (t.length+1)).isEmpty=false/\t.length<=1000/\
 (partsBetween t (occurrences t sep 0 t.length (t.length+1)) sep.length).length<=1000/\∀ l,H l=none->Q (.ref l) (upd H l (.lst ((partsBetween t (occurrences t sep 0 t.length (t.length+1)) sep.length).map V.str)))
theorem vals_strsFrom:∀ (n:Nat)(l:List Str),Vals (l.map V.str) (strsFrom n l)
 | _,[]=>.nil
 | n,x :: r=>.cons ⟨n,rfl⟩ (vals_strsFrom (n+1) r)
theorem mt_split {X:Cx}:MtR X "str.split" rSplit:=by
 intro pins s σ H x vs v us Q I rx rv h
 obtain⟨t,sep,rfl,rfl,h1,hy,hf,hz,hn,q⟩:=h
 obtain⟨tk,rfl⟩:=rx
 obtain⟨u,rfl,ru⟩:=rv.one
 obtain⟨tk2,rfl⟩:=ru
 refine call_meets F.slot_str_split ((tyV_is (T:="str") (x:=.str t) I ⟨tk,rfl⟩ rfl).1) F.entry_str_split (F.args_str_split_2 _ _) (meets_str_split_sep t sep tk tk2 h1 hy hf (Nat.le_of_lt (small1000 hz)) (Nat.le_of_lt (small1000 hn))) ?_
 refine⟨.ref s.heap.objs.size,_,I.lnew (t':=_) (vals_strsFrom s.toks _) ?_,rfl,q _ I.fresh⟩
 rw[List.length_map]
 exact Nat.le_of_lt (small1000 hn)
theorem pe_bmK {X:Cx}{K:PySem.W.Frag}{o e:Expr}{es:List Expr}{to:TE}{t:TA}{name:Str}{apos cpos:Pos}{T id:String}{r:V->List V->Hp->VK->Prop}(hK:X.K=K)(pa:PlainAttrs T)(slot:Slot T name id)(hty:typeOf (.builtin id)=pure (.type "method_descriptor")) (hm:MtR X id r)(ho:PE X o to)(ha:PA X (e :: es) t)
  (hbase:attributeBase o name X.env (eval o X.env)=eval o X.env:=by rfl)
  (hfew:((backTo cpos (starEach (e :: es) X.env)).all (λ x=>!x.1) && (backToKw cpos (keywordEach [] X.env)).all (λ x=>x.1.isSome)
   && decide ((e :: es).length+([]:List Keyword).length+(if ([]:List Keyword).isEmpty then 0 else 1) < 30))=true:=by rfl)
  (hline:(apos.endLine == cpos.line)=true:=by rfl) (hs:starEach (e :: es) X.env=(false,eval e X.env) :: starEach es X.env:=by rfl) (hplain:(backTo cpos (starEach es X.env)).any (·.1)=false:=by rfl) :
  PE X (.Call (.Attribute o name apos) (e :: es) [] cpos) (tBM K T r to t):=by subst hK;exact pe_bm pa slot hty hm ho ha hbase hfew hline hs hplain
theorem ix_ok {n:Nat}{i:Int}(h0:0<=i)(h1:i < n):seqIndex? i n=some i.toNat:=by
 have:ixN n i=some i.toNat:=by
  unfold ixN
  rw[if_pos h0,if_pos h1]
 exact(ixN_seq this).1
end L2
namespace HT
open PySem PyProof.Rows
section
variable {prog:Program}{w:World}{A:Around}{E:Value->Shared->Prop}{s:Shared}
theorem getItem_tuple_whole {t sl:Addr}{items:Array Value}{vl vu:Value}{lo hi:Option Int}{Q:Value->Shared->Prop}(ht:IsTup s.heap t items)(hs:s.heap.IsSliceOf sl vl vu .none)(pl:IsPart vl lo)(pu:IsPart vu hi)
  (h1:sIx items.size 0 lo=0) (h2:sIx items.size items.size hi=items.size) (h:Q (.ref t) s):wpAny (model prog w) A (getItem (.ref t) (.ref sl)) Q E s:=by
 obtain⟨os,hos,hcs,hds⟩:=id hs
 have hTs:s.TypeIs (.ref sl) "slice":=⟨os,hos,hcs⟩
 unfold getItem
 try with_reducible refine wpAny_holding ?_
 first|refine wpAny_bind (wpAny_pure ?_)|skip
 refine wpAny_bind (wpAny_sequenceKey ht.typeIs (by decide) ?_)
 refine wpAny_bind (wpAny_callSpecial?_slot (name:=Str.ofString "__getitem__") ht.typeIs PyProof.Rows.slot_tuple_getitem
  (wpAny_call_entry PyProof.Rows.slot_tuple_getitem ht.typeIs entry_tuple_getitem ?_ (args_tuple_getitem _ _)))
 show wpAny _ _ (Builtin.Tuple.tupleItemsOf (.ref t) >>= _) _ _ s
 refine wpAny_bind (tupleItemsOf_ ht ?_)
 refine wpAny_bind (wpAny_typeOf hTs ?_)
 rw[if_pos (by decide)]
 refine wpAny_bind (sliceApplied_gen hs pl pu ?_)
 have hyes:((((sIx items.size 0 lo:Nat):Int) == 0 && (1:Int) == 1 && (sIx items.size items.size hi - sIx items.size 0 lo) == items.size)=true):=by
  rw[h1,h2];simp
 show wpAny _ _ (if (((sIx items.size 0 lo:Nat):Int) == 0 && (1:Int) == 1 && (sIx items.size items.size hi - sIx items.size 0 lo) == items.size)=true then _ else _) _ _ s
 rw[if_pos hyes]
 unfold Builtin.Tuple.tupleIsExact
 refine wpAny_bind (wpAny_bind (wpAny_typeOf ht.typeIs (wpAny_pure ?_)))
 rw[if_pos (by decide)]
 first
  | exact wpAny_bind (wpAny_rule (wpAny_pure ⟨_,rfl,wpAny_pure h⟩))
  | exact wpAny_bind (wpAny_rule (wpAny_bind (wpAny_pure (wpAny_pure ⟨_,rfl,wpAny_pure h⟩))))
end
end HT
namespace L2
open PySem PySem.Spec PyProof.Rows
theorem op_isnotB {X:Cx}:OpR X (compareOp .IsNot) (λ x y H Q=>∃ a b,x=.bl a/\y=.bl b/\Q (.bl (a != b)) H):=by
 intro pins s σ H x y v u Q I rx ry h
 obtain⟨a,b,rfl,rfl,q⟩:=h
 cases (show v=Value.bool a from rx)
 cases (show u=Value.bool b from ry)
 exact isnot_bool ⟨.bl _,H,I,rfl,q⟩
def rCatT2 (K:PySem.W.Frag):R2:=λ x y H Q=>∃ a b xs ys,x=.ref a/\y=.ref b/\SqT K H a xs/\SqT K H b ys/\ys≠[]/\xs.length+ys.length<=sizeLine/\
 (xs=[]->Q (.ref b) H)/\(xs≠[]->∀ p,H p=none->Q (.ref p) (upd H p (.tup (xs++ys))))
theorem op_catT2 {X:Cx}:OpR X (binaryOp .Add) (rCatT2 X.K):=by
 intro pins s σ H x y v u Q I rx ry h
 obtain⟨a,b,xs,ys,rfl,rfl,ha,hb,hy,hz,q1,q2⟩:=h
 by_cases hx:xs=[]
 ·cases rx
  cases ry
  obtain⟨its,r1,p1,_⟩:=I.tuple ha
  obtain⟨its2,r2,p2,_⟩:=I.tuple hb
  obtain⟨⟨cls,dd,data,sl⟩,ho,hc,n,hd⟩:=id p1
  obtain⟨⟨cls2,dd2,data2,sl2⟩,ho2,hc2,n2,hd2⟩:=id p2
  simp only at hc hd hc2 hd2
  subst hc hd hc2 hd2
  have he:its=[]:=r1.nil_iff.mpr hx
  exact concat_meets ⟨_,ho,rfl⟩ ⟨_,ho2,rfl⟩ noFill_tuple_add seq_tuple_add PySem.F.slot_tuple_add PySem.F.entry_tuple_add (PySem.F.args_tuple_add_2 _ _)
   (tuple_addW0 a b its.toArray its2.toArray n n2 dd dd2 sl sl2 (by simp[he])) ⟨ho,ho2,⟨.ref b,H,I,rfl,q1 hx⟩⟩
 ·exact op_catT pins s σ H (.ref a) (.ref b) v u Q I rx ry ⟨a,b,xs,ys,rfl,rfl,ha,hb,hx,hz,λ z=>absurd z hy,λ _=>q2 hx⟩
def rSlT2 (K:PySem.W.Frag):V->Option Int->Option Int->Hp->VK->Prop:=λ x lo hi H Q=>∃ a xs,x=.ref a/\SqT K H a xs/\
 ((HT.sIx xs.length 0 lo=0/\HT.sIx xs.length xs.length hi=xs.length)->Q (.ref a) H)/\(¬ (HT.sIx xs.length 0 lo=0/\HT.sIx xs.length xs.length hi=xs.length)->∀ p,H p=none->Q (.ref p) (upd H p (.tup (cutV xs lo hi))))
theorem sl_tup2 {X:Cx}:SlR X (rSlT2 X.K):=by
 intro pins s σ H x v vl vu lo hi sl Q I rx hs pl pu h
 obtain⟨a,xs,rfl,hx,q1,q2⟩:=h
 by_cases hw:HT.sIx xs.length 0 lo=0/\HT.sIx xs.length xs.length hi=xs.length
 ·cases rx
  obtain⟨its,r,ht,hz⟩:=I.tuple hx
  have hlen:its.toArray.size=xs.length:=by rw[List.size_toArray];exact r.length.symm
  refine⟨"tuple",_,PyProof.Rows.slot_tuple_getitem.lookup,ht.typeIs,?_⟩
  exact HT.getItem_tuple_whole ht hs pl pu (by rw[hlen];exact hw.1) (by rw[hlen];exact hw.2) ⟨.ref a,H,I,rfl,q1 hw⟩
 ·exact sl_tup pins s σ H (.ref a) v vl vu lo hi sl Q I rx hs pl pu ⟨a,xs,rfl,hx,hw,q2 hw⟩
end L2
namespace L2
open PySem PySem.Spec PyProof.Rows
end L2
namespace L2
open PySem PySem.Spec PySem.W PyProof.Rows
section
variable {prog:Program}{w:World}{A:Around}{E:Value->Shared->Prop}{s:Shared}{K:PySem.W.Frag}{x C:Addr}{ox:Obj}{od:Option Obj}{name:Str}
end
end L2
namespace L2
open PySem PySem.Spec PySem.W PyProof.Rows
section
variable {K:PySem.W.Frag}{C:Addr}{nm:Str}{bm:List Value}{ini:Option Value}
end
def xcO (C e:Addr):HO:=.ext λ h=>∃ ox:Obj,h.get? e=some ox/\ox.cls=.ref C/\notCls ox=true/\ox.dict=none
section
variable {X:Cx}{pins:List (Addr × Obj)}{σ:St}{H:Hp}{s:Shared}{h':Heap}{a:Addr}{o:HO}
end
end L2
namespace L2
open PySem PySem.Spec PyProof.Rows
theorem strs_of_vals:∀ {ss:List Str}{us:List Value},Vals (ss.map V.str) us->∃ l:List (Str × Tok),strValues l=us/\l.map (·.1)=ss
 | [],_,.nil=>⟨[],rfl,rfl⟩
 | x :: r,_,.cons ⟨t,e⟩ h=>by
  obtain⟨l,h1,h2⟩:=strs_of_vals h
  subst e
  exact⟨(x,t) :: l,by rw[<-h1];rfl,by rw[List.map_cons,h2]⟩
def rSortS:List V->Hp->VK->Prop:=λ xs H Q=>∃ (l:Addr)(ss:List Str),xs=[.ref l]/\H l=some (.lst (ss.map V.str))/\ss.length < 64/\∀ (ss':List Str) d,H d=none->ss'.Perm ss->sortedS ss'=true->Q (.ref d) (upd H d (.lst (ss'.map V.str)))
theorem strsAre_of:∀ {ss:List Str}{us:List Value},Vals (ss.map V.str) us->StrsAre us ss
 | [],_,.nil=>.nil
 | x :: r,_,.cons ⟨t,e⟩ h=>by subst e;exact .cons x t (strsAre_of h)
theorem vals_of_strsAre:∀ {ss:List Str}{us:List Value},StrsAre us ss->Vals (ss.map V.str) us
 | _,_,.nil=>.nil
 | _,_,.cons x t h=>.cons ⟨t,rfl⟩ (vals_of_strsAre h)
theorem call_sortS {X:Cx}:CallR X (.builtin "sorted") rSortS:=by
 rintro pins s σ H xs us Q I rv ⟨l,ss,rfl,hH,h64,q⟩
 obtain⟨u,rfl,ru⟩:=rv.one
 cases (show u=Value.ref l from ru)
 obtain⟨z,its,n,r,hl,e⟩:=I.lstM hH
 rw[List.length_map]at hl
 refine sorted_strs ⟨_,e,rfl,n,rfl⟩ (strsAre_of r) (by omega) λ out ss' a1 a2 a3=>?_
 obtain⟨e',he⟩:=sortedAll_at s.heap its out
 have hd:H (s.heap.objs.size+1)=none:=I.hok.fresh (Nat.le_succ _)
 refine⟨.ref (s.heap.objs.size+1),_,I.laid (a:=s.heap.objs.size+1) (o:=.lst (ss'.map V.str)) (t':=s.toks) (λ b o z=>sortedAll_old z) (Nat.le_succ _) ⟨?_,_,e',vals_of_strsAre a1,?_⟩,rfl,q ss' _ hd a2 a3⟩
 ·rw[List.length_map,a2.length_eq];exact Nat.le_of_lt (small1000 (by omega))
 ·rw[he]
end L2
namespace L2
open PySem PySem.Spec PyProof.Rows
end L2
namespace Mm
open PySem L2
inductive AV where
 | non|bl (b:Bool)|int (i:Int)|str (x:Str)|tup (xs:List AV)|ref (i:Nat)|sq (xs:List AV)
inductive AO where
 | lst (xs:List AV)|dK (kvs:List (Key × AV))|dT (kvs:List (List Key × AV))|ins (C:Nat) (fs:List (Str × AV))|exc (C:Nat)|tab (i:Nat) (q:Str)
abbrev S:=List AO
abbrev En:=List (Option AV)
structure AX where
 cls:Nat
 fs:List (Str × AV)
inductive R (α:Type) where
 | ok (a:α) (s:S)|ex (c:AX) (s:S)|bad
def R.bind {α β:Type}:R α->(α->S->R β)->R β
 | .ok a s,f=>f a s
 | .ex c s,_=>.ex c s
 | .bad,_=>.bad
inductive RS where
 | nx (e:En) (s:S)|rt (v:AV) (s:S)|bk (e:En) (s:S)|ct (e:En) (s:S)|ex (c:AX) (s:S)|bad
@[simp] theorem bind_ok {α β:Type}(a:α) (s:S) (f:α->S->R β):(R.ok a s).bind f=f a s:=rfl
@[simp] theorem bind_bad {α β:Type}(f:α->S->R β):(R.bad:R α).bind f=.bad:=rfl
structure Tx where
 K:PySem.W.Frag
 cl:Nat->Addr
def SqF (K:PySem.W.Frag)(H:Hp)(a:Addr)(xs:List V):Prop:=
 (∃ o,H a=some (.frz o (.lst xs)))∨∃ (o:Obj) (its:Array Value) (n:Nat),K.lookup a=some o/\o.cls=.type "list"/\o.dict=none/\o.data=.seq its n/\its.size<=sizeLine/\Vals xs its.toList
theorem SqF.sqL {K:PySem.W.Frag}{H:Hp}{a:Addr}{xs:List V}(h:SqF K H a xs):SqL K H a xs:=by
 rcases h with h|h
 ·exact .inl (.inr h)
 ·exact .inr h
mutual
def VR (T:Tx)(ρ:List Addr)(H:Hp):AV->V->Prop
 | .non,x=>x=.non
 | .bl b,x=>x=.bl b
 | .int i,x=>x=.int i
 | .str z,x=>x=.str z
 | .tup xs,x=>∃ a vs,x=.ref a/\SqT T.K H a vs/\VRs T ρ H xs vs
 | .ref i,x=>∃ a,ρ[i]? = some a/\x=.ref a
 | .sq xs,x=>∃ a vs,x=.ref a/\SqF T.K H a vs/\VRs T ρ H xs vs
def VRs (T:Tx)(ρ:List Addr)(H:Hp):List AV->List V->Prop
 | [],vs=>vs=[]
 | v :: r,vs=>∃ x ys,vs=x :: ys/\VR T ρ H v x/\VRs T ρ H r ys
end
structure Gr (ρ:List Addr)(H:Hp)(ρ':List Addr)(H':Hp):Prop where
 pre:ρ <+: ρ'
 tups:∀ b xs,H b=some (.tup xs)->H' b=some (.tup xs)
 frzs:∀ b o u,H b=some (.frz o u)->H' b=some (.frz o u)
structure Up (ρ:List Addr)(H:Hp)(ρ':List Addr)(H':Hp):Prop extends Gr ρ H ρ' H' where
 fr:∀ b o,H b=some o->b∉ρ->H' b=some o/\b∉ρ'
 live:∀ b,H' b=none->H b=none
theorem Up.refl {ρ:List Addr}{H:Hp}:Up ρ H ρ H:=⟨⟨List.prefix_rfl,λ _ _ h=>h,λ _ _ _ h=>h⟩,λ _ _ h n=>⟨h,n⟩,λ _ h=>h⟩
theorem Up.trans {ρ ρ1 ρ2:List Addr}{H H1 H2:Hp}(a:Up ρ H ρ1 H1)(b:Up ρ1 H1 ρ2 H2):Up ρ H ρ2 H2:=
 ⟨⟨a.pre.trans b.pre,λ c xs h=>b.tups c xs (a.tups c xs h),λ c o u h=>b.frzs c o u (a.frzs c o u h)⟩,λ c o h n=>let ⟨h1,n1⟩:=a.fr c o h n;b.fr c o h1 n1,λ c h=>a.live c (b.live c h)⟩
theorem Up.add {ρ ρ1:List Addr}{H H1:Hp}{p:Addr}(a:Up ρ H ρ1 H1)(h:H p=none):Up ρ H (ρ1++[p]) H1:=
 ⟨⟨a.pre.trans (List.prefix_append _ _),a.tups,a.frzs⟩,λ b o e n=>⟨(a.fr b o e n).1,λ z=>by
  rcases List.mem_append.mp z with z|z
  ·exact(a.fr b o e n).2 z
  ·rw[List.mem_singleton.mp z,h]at e;cases e⟩,a.live⟩
theorem pre_get {α:Type}{ρ ρ':List α}(h:ρ <+: ρ'){i:Nat}{a:α}(e:ρ[i]? = some a):ρ'[i]? = some a:=by
 obtain⟨t,rfl⟩:=h
 rw[List.getElem?_append_left]
 ·exact e
 ·exact(List.getElem?_eq_some_iff.mp e).1
theorem Gr.sqT {K:PySem.W.Frag}{ρ ρ':List Addr}{H H':Hp}(u:Gr ρ H ρ' H'){a:Addr}{vs:List V}(h:SqT K H a vs):SqT K H' a vs:=by
 rcases h with(h|⟨o,h⟩)|h
 ·exact .inl (.inl (u.tups _ _ h))
 ·exact .inl (.inr ⟨o,u.frzs _ _ _ h⟩)
 ·exact .inr h
theorem Gr.sqF {K:PySem.W.Frag}{ρ ρ':List Addr}{H H':Hp}(u:Gr ρ H ρ' H'){a:Addr}{vs:List V}(h:SqF K H a vs):SqF K H' a vs:=by
 rcases h with⟨o,h⟩|h
 ·exact .inl ⟨o,u.frzs _ _ _ h⟩
 ·exact .inr h
section
variable {T:Tx}{ρ ρ':List Addr}{H H':Hp}
mutual
theorem VR.gr (u:Gr ρ H ρ' H'):∀ {v:AV}{x:V},VR T ρ H v x->VR T ρ' H' v x
 | .non,_,h=>h
 | .bl _,_,h=>h
 | .int _,_,h=>h
 | .str _,_,h=>h
 | .ref _,_,h=>by
  unfold VR at *
  obtain⟨a,h,e⟩:=h
  exact⟨a,pre_get u.pre h,e⟩
 | .tup _,_,h=>by
  unfold VR at *
  obtain⟨a,vs,e,h1,h2⟩:=h
  exact⟨a,vs,e,u.sqT h1,VRs.gr u h2⟩
 | .sq _,_,h=>by
  unfold VR at *
  obtain⟨a,vs,e,h1,h2⟩:=h
  exact⟨a,vs,e,u.sqF h1,VRs.gr u h2⟩
theorem VRs.gr (u:Gr ρ H ρ' H'):∀ {l:List AV}{xs:List V},VRs T ρ H l xs->VRs T ρ' H' l xs
 | [],_,h=>h
 | _ :: _,_,h=>by
  unfold VRs at *
  obtain⟨x,ys,e,h1,h2⟩:=h
  exact⟨x,ys,e,VR.gr u h1,VRs.gr u h2⟩
end
theorem VR.up (u:Up ρ H ρ' H'){v:AV}{x:V}(h:VR T ρ H v x):VR T ρ' H' v x:=h.gr u.toGr
theorem VRs.up (u:Up ρ H ρ' H'){v:List AV}{x:List V}(h:VRs T ρ H v x):VRs T ρ' H' v x:=h.gr u.toGr
theorem VRs.length:∀ {l:List AV}{xs:List V},VRs T ρ H l xs->l.length=xs.length
 | [],_,h=>by unfold VRs at h;subst h;rfl
 | _ :: _,_,h=>by
  unfold VRs at h
  obtain⟨x,ys,rfl,_,h2⟩:=h
  simp[VRs.length h2]
theorem VRs.nil:VRs T ρ H [] []:=by unfold VRs;rfl
theorem VRs.cons {v:AV}{x:V}{l:List AV}{xs:List V}(h:VR T ρ H v x)(k:VRs T ρ H l xs):VRs T ρ H (v :: l) (x :: xs):=by
 unfold VRs
 exact⟨x,xs,rfl,h,k⟩
theorem VRs.nil_inv {xs:List V}(h:VRs T ρ H [] xs):xs=[]:=by unfold VRs at h;exact h
theorem VRs.cons_inv {v:AV}{l:List AV}{xs:List V}(h:VRs T ρ H (v :: l) xs):∃ x ys,xs=x :: ys/\VR T ρ H v x/\VRs T ρ H l ys:=by unfold VRs at h;exact h
theorem VRs.get:∀ {l:List AV}{xs:List V}{i:Nat}{v:AV},VRs T ρ H l xs->l[i]? = some v->∃ x,xs[i]? = some x/\VR T ρ H v x
 | [],_,_,_,_,e=>by simp at e
 | _ :: _,_,0,_,h,e=>by
  obtain⟨x,ys,rfl,h1,_⟩:=h.cons_inv
  simp at e;subst e
  exact⟨x,rfl,h1⟩
 | _ :: _,_,i+1,_,h,e=>by
  obtain⟨x,ys,rfl,_,h2⟩:=h.cons_inv
  exact VRs.get (i:=i) h2 (by simpa using e)
theorem VRs.append:∀ {l q:List AV}{xs ys:List V},VRs T ρ H l xs->VRs T ρ H q ys->VRs T ρ H (l++q) (xs++ys)
 | [],_,_,_,h,k=>by cases h.nil_inv;exact k
 | _ :: _,_,_,_,h,k=>by
  obtain⟨x,zs,rfl,h1,h2⟩:=h.cons_inv
  exact .cons h1 (VRs.append h2 k)
theorem VRs.one {v:AV}{x:V}(h:VR T ρ H v x):VRs T ρ H [v] [x]:=.cons h .nil
theorem VRs.set:∀ {l:List AV}{xs:List V}{v:AV}{x:V}(i:Nat),VRs T ρ H l xs->VR T ρ H v x->VRs T ρ H (l.set i v) (xs.set i x)
 | [],_,_,_,_,h,_=>by cases h.nil_inv;exact .nil
 | _ :: _,_,_,_,0,h,k=>by
  obtain⟨x,zs,rfl,h1,h2⟩:=h.cons_inv
  exact .cons k h2
 | _ :: _,_,_,_,i+1,h,k=>by
  obtain⟨x,zs,rfl,h1,h2⟩:=h.cons_inv
  exact .cons h1 (VRs.set i h2 k)
theorem VRs.drop:∀ {l:List AV}{xs:List V}(n:Nat),VRs T ρ H l xs->VRs T ρ H (l.drop n) (xs.drop n)
 | _,_,0,h=>h
 | [],_,_+1,h=>by cases h.nil_inv;exact .nil
 | _ :: _,_,n+1,h=>by
  obtain⟨x,zs,rfl,h1,h2⟩:=h.cons_inv
  exact VRs.drop n h2
theorem VRs.take:∀ {l:List AV}{xs:List V}(n:Nat),VRs T ρ H l xs->VRs T ρ H (l.take n) (xs.take n)
 | _,_,0,h=>.nil
 | [],_,_+1,h=>by cases h.nil_inv;exact .nil
 | _ :: _,_,n+1,h=>by
  obtain⟨x,zs,rfl,h1,h2⟩:=h.cons_inv
  exact .cons h1 (VRs.take n h2)
theorem VRs.map {α:Type}{f:α->AV}{g:α->V}(h:∀ a,VR T ρ H (f a) (g a)):∀ (l:List α),VRs T ρ H (l.map f) (l.map g)
 | []=>.nil
 | a :: r=>.cons (h a) (VRs.map h r)
theorem VRs.bls_inv:∀ {ns:List Bool}{xs:List V},VRs T ρ H (ns.map AV.bl) xs->xs=ns.map V.bl
 | [],_,h=>h.nil_inv
 | _ :: _,_,h=>by
  obtain⟨x,zs,rfl,h1,h2⟩:=h.cons_inv
  unfold VR at h1
  rw[h1,VRs.bls_inv h2];rfl
theorem VRs.strs_inv:∀ {ns:List Str}{xs:List V},VRs T ρ H (ns.map AV.str) xs->xs=ns.map V.str
 | [],_,h=>h.nil_inv
 | _ :: _,_,h=>by
  obtain⟨x,zs,rfl,h1,h2⟩:=h.cons_inv
  unfold VR at h1
  rw[h1,VRs.strs_inv h2];rfl
theorem vr_int {i:Int}:VR T ρ H (.int i) (.int i):=by unfold VR;rfl
theorem vr_bl {i:Bool}:VR T ρ H (.bl i) (.bl i):=by unfold VR;rfl
theorem vr_str {i:Str}:VR T ρ H (.str i) (.str i):=by unfold VR;rfl
theorem vr_non:VR T ρ H .non .non:=by unfold VR;rfl
theorem vr_ref {i:Nat}{a:Addr}(h:ρ[i]? = some a):VR T ρ H (.ref i) (.ref a):=by unfold VR;exact⟨a,h,rfl⟩
theorem vr_tup {xs:List AV}{a:Addr}{vs:List V}(h:SqT T.K H a vs)(k:VRs T ρ H xs vs):VR T ρ H (.tup xs) (.ref a):=by unfold VR;exact⟨a,vs,rfl,h,k⟩
theorem VR.tup_inv {xs:List AV}{x:V}(h:VR T ρ H (.tup xs) x):∃ a vs,x=.ref a/\SqT T.K H a vs/\VRs T ρ H xs vs:=by unfold VR at h;exact h
theorem VR.ref_inv {i:Nat}{x:V}(h:VR T ρ H (.ref i) x):∃ a,ρ[i]? = some a/\x=.ref a:=by unfold VR at h;exact h
theorem VR.sq_inv {xs:List AV}{x:V}(h:VR T ρ H (.sq xs) x):∃ a vs,x=.ref a/\SqF T.K H a vs/\VRs T ρ H xs vs:=by unfold VR at h;exact h
theorem VR.int_inv {i:Int}{x:V}(h:VR T ρ H (.int i) x):x=.int i:=by unfold VR at h;exact h
theorem VR.bl_inv {i:Bool}{x:V}(h:VR T ρ H (.bl i) x):x=.bl i:=by unfold VR at h;exact h
theorem VR.str_inv {i:Str}{x:V}(h:VR T ρ H (.str i) x):x=.str i:=by unfold VR at h;exact h
theorem VR.non_inv {x:V}(h:VR T ρ H .non x):x=.non:=by unfold VR at h;exact h
def TabOk (H:Hp)(q:Str)(ps:Array Value):Prop:=TriplesOk ps.toList/\∀ pos cv,codeAmong pos ps.toList=some cv->∃ c oc u vs t,cv=.ref c/\H c=some (.frz oc u)/\oc.data=.fields vs/\vs[1]? = some (.str q t)
def OR (T:Tx)(ρ:List Addr)(H:Hp):AO->Addr->Prop
 | .lst xs,a=>∃ vs,H a=some (.lst vs)/\VRs T ρ H xs vs
 | .dK kvs,a=>∃ ks:List (Key × V),H a=some (.dK ks)/\kvs.map (·.1)=ks.map (·.1)/\VRs T ρ H (kvs.map (·.2)) (ks.map (·.2))
 | .dT kvs,a=>∃ ks:List (List Key × V),H a=some (.dT ks)/\kvs.map (·.1)=ks.map (·.1)/\VRs T ρ H (kvs.map (·.2)) (ks.map (·.2))
 | .ins C fs,a=>∃ (dx:Addr) (ks:List (Str × V)),H a=some (.ins (T.cl C) dx ks)/\fs.map (·.1)=ks.map (·.1)/\VRs T ρ H (fs.map (·.2)) (ks.map (·.2))
 | .exc C,a=>H a=some (xcO (T.cl C) a)
 | .tab i q,a=>a=T.cl i/\∃ ps,H a=some (.tbl ps)/\TabOk H q ps
theorem OR.ex {o:AO}{a:Addr}(h:OR T ρ H o a):∃ u,H a=some u:=by
 cases o with
 | lst xs=>obtain⟨_,h,_⟩:=h;exact⟨_,h⟩
 | dK xs=>obtain⟨_,h,_⟩:=h;exact⟨_,h⟩
 | dT xs=>obtain⟨_,h,_⟩:=h;exact⟨_,h⟩
 | ins C xs=>obtain⟨_,_,h,_⟩:=h;exact⟨_,h⟩
 | exc C=>exact⟨_,h⟩
 | tab i q=>obtain⟨_,_,h,_⟩:=h;exact⟨_,h⟩
theorem OR.up {o:AO}{a:Addr}(u:Gr ρ H ρ' H')(e:H' a=H a)(h:OR T ρ H o a):OR T ρ' H' o a:=by
 cases o with
 | lst xs=>obtain⟨vs,h,k⟩:=h;exact⟨vs,e.trans h,k.gr u⟩
 | dK xs=>obtain⟨vs,h,q,k⟩:=h;exact⟨vs,e.trans h,q,k.gr u⟩
 | dT xs=>obtain⟨vs,h,q,k⟩:=h;exact⟨vs,e.trans h,q,k.gr u⟩
 | ins C xs=>obtain⟨dx,vs,h,q,k⟩:=h;exact⟨dx,vs,e.trans h,q,k.gr u⟩
 | exc C=>exact e.trans h
 | tab i q=>
  obtain⟨h1,ps,h2,h3,h4⟩:=h
  exact⟨h1,ps,e.trans h2,h3,λ pos cv z=>let ⟨c,oc,w,vs,t,k1,k2,k3⟩:=h4 pos cv z;⟨c,oc,w,vs,t,k1,u.frzs _ _ _ k2,k3⟩⟩
end
structure SR (T:Tx)(ρ:List Addr)(s:S)(H:Hp):Prop where
 nd:ρ.Nodup
 len:ρ.length=s.length
 obj:∀ (i:Nat) (o:AO),s[i]? = some o->∃ a,ρ[i]? = some a/\OR T ρ H o a
section
variable {T:Tx}{ρ ρ':List Addr}{s:S}{H H':Hp}
theorem SR.in (h:SR T ρ s H){a:Addr}(ha:a∈ρ):∃ u,H a=some u:=by
 obtain⟨i,hi,e⟩:=List.getElem_of_mem ha
 have hi2:i < s.length:=by rw[<-h.len];exact hi
 obtain⟨b,e2,q⟩:=h.obj i s[i] (List.getElem?_eq_getElem hi2)
 rw[List.getElem?_eq_getElem hi]at e2
 cases e2
 rw[e]at q
 exact q.ex
theorem SR.out (h:SR T ρ s H){a:Addr}(ha:H a=none):a∉ρ:=λ z=>by
 obtain⟨u,e⟩:=h.in z
 rw[ha]at e;cases e
theorem SR.upNew (h:SR T ρ s H){p:Addr}{o:HO}(hp:H p=none):Up ρ H ρ (upd H p o):=
 ⟨⟨List.prefix_rfl,λ b xs e=>by rw[upd_ne (ne_of_none e hp)];exact e,λ b o u e=>by rw[upd_ne (ne_of_none e hp)];exact e⟩,λ b u e n=>⟨by rw[upd_ne (ne_of_none e hp)];exact e,n⟩,λ b e=>by
  by_cases hb:b=p
  ·rw[hb];exact hp
  ·rw[upd_ne hb]at e;exact e⟩
theorem SR.up (h:SR T ρ s H)(u:Gr ρ H ρ H')(k:∀ a∈ρ,H' a=H a):SR T ρ s H':=
 ⟨h.nd,h.len,λ i o e=>by
  obtain⟨a,e1,q⟩:=h.obj i o e
  exact⟨a,e1,q.up u (k a (List.mem_of_getElem? e1))⟩⟩
theorem SR.new (h:SR T ρ s H){p:Addr}{o:HO}(hp:H p=none):SR T ρ s (upd H p o):=
 h.up (h.upNew hp).toGr λ a ha=>upd_ne λ e=>h.out hp (e ▸ ha)
theorem SR.add (h:SR T ρ s H){p:Addr}{o:AO}(hp:p∉ρ)(k:OR T (ρ++[p]) H o p):SR T (ρ++[p]) (s++[o]) H:=by
 refine⟨List.nodup_append.mpr ⟨h.nd,by simp,λ a ha b hb e=>hp (by rw[List.mem_singleton.mp hb]at e;exact e ▸ ha)⟩,by simp[h.len],λ i q e=>?_⟩
 by_cases hi:i < s.length
 ·rw[List.getElem?_append_left hi]at e
  obtain⟨a,e1,q1⟩:=h.obj i q e
  refine⟨a,by rw[List.getElem?_append_left (by rw[h.len];exact hi)];exact e1,?_⟩
  exact q1.up ⟨List.prefix_append _ _,λ _ _ e=>e,λ _ _ _ e=>e⟩ rfl
 ·rw[List.getElem?_append_right (by omega)]at e
  have hz:i - s.length=0:=by
   have:=(List.getElem?_eq_some_iff.mp e).1
   simp at this;omega
  rw[hz]at e
  cases e
  exact⟨p,by rw[List.getElem?_append_right (by rw[h.len];omega),h.len,hz];rfl,k⟩
end
structure Rl (α β:Type) where
 r:Hp->List Addr->Hp->α->β->Prop
 anti:∀ {H H1:Hp}{ρ:List Addr}{H':Hp}{v:α}{x:β},(∀ b,H1 b=none->H b=none)->r H1 ρ H' v x->r H ρ H' v x
abbrev XEt:=AX->List Addr->S->Hp->Prop
def Out {α β:Type}(T:Tx)(XE:XEt)(rl:Rl α β)(ρ:List Addr)(H:Hp):R α->(β->Hp->Prop)->Prop
 | .ok v s,Q=>∀ ρ' H' x,Up ρ H ρ' H'->SR T ρ' s H'->rl.r H ρ' H' v x->Q x H'
 | .ex c s,_=>∀ ρ' H',Up ρ H ρ' H'->SR T ρ' s H'->XE c ρ' s H'
 | .bad,_=>False
theorem Out.up {α β:Type}{T:Tx}{XE:XEt}{rl:Rl α β}{ρ ρ':List Addr}{H H':Hp}{r:R α}{Q:β->Hp->Prop}(u:Up ρ H ρ' H')(h:Out T XE rl ρ H r Q):Out T XE rl ρ' H' r Q:=by
 cases r with
 | ok v s=>exact λ ρ2 H2 x u2 sr vr=>h ρ2 H2 x (u.trans u2) sr (rl.anti u.live vr)
 | ex c s=>exact λ ρ2 H2 u2 sr=>h ρ2 H2 (u.trans u2) sr
 | bad=>exact h
structure ER (T:Tx)(ρ:List Addr)(H:Hp)(env:En)(σ:St):Prop where
 len:env.length=σ.length
 get:∀ (i:Nat) (v:AV),env[i]? = some (some v)->∃ x,σ[i]? = some (some x)/\VR T ρ H v x
theorem ER.up {T:Tx}{ρ ρ':List Addr}{H H':Hp}{env:En}{σ:St}(u:Up ρ H ρ' H')(h:ER T ρ H env σ):ER T ρ' H' env σ:=
 ⟨h.len,λ i v e=>let ⟨x,e1,q⟩:=h.get i v e;⟨x,e1,q.up u⟩⟩
theorem ER.set {T:Tx}{ρ:List Addr}{H:Hp}{env:En}{σ:St}(h:ER T ρ H env σ){i:Nat}{v:AV}{x:V}(k:VR T ρ H v x):ER T ρ H (env.set i (some v)) (σ.set i (some x)):=by
 refine⟨by simp[h.len],λ j w e=>?_⟩
 by_cases hij:i=j
 ·subst hij
  have hl:i < env.length:=by
   have:=(List.getElem?_eq_some_iff.mp e).1
   simpa using this
  rw[List.getElem?_set_self hl]at e
  cases e
  exact⟨x,by rw[List.getElem?_set_self (by rw[<-h.len];exact hl)],k⟩
 ·rw[List.getElem?_set_ne hij]at e ⊢
  exact h.get j w e
def tG {α β:Type}(T:Tx)(XE:XEt)(rl:Rl α β)(m:En->S->R α):St->Hp->(β->Hp->Prop)->Prop:=λ σ H Q=>
 ∃ ρ env s,SR T ρ s H/\ER T ρ H env σ/\Out T XE rl ρ H (m env s) Q
theorem step {α β α' β':Type}{T:Tx}{XE:XEt}{rl:Rl α β}{rl2:Rl α' β'}{ρ:List Addr}{env:En}{s:S}{σ:St}{H:Hp}{m:En->S->R α}{k:α->S->R α'}{Q:β'->Hp->Prop}{F:β->Hp->Prop}
  (hs:SR T ρ s H) (he:ER T ρ H env σ) (ho:Out T XE rl2 ρ H ((m env s).bind k) Q)
  (hk:∀ v s1 ρ1 H1 x,m env s=.ok v s1->Up ρ H ρ1 H1->SR T ρ1 s1 H1->ER T ρ1 H1 env σ->rl.r H ρ1 H1 v x->Out T XE rl2 ρ1 H1 (k v s1) Q->F x H1):tG T XE rl m σ H F:=by
 refine⟨ρ,env,s,hs,he,?_⟩
 cases e:m env s with
 | ok v s1=>
  rw[e]at ho
  exact λ ρ1 H1 x u sr vr=>hk v s1 ρ1 H1 x e u sr (he.up u) vr (Out.up u ho)
 | ex c s1=>rw[e]at ho;exact ho
 | bad=>rw[e]at ho;exact ho
theorem Out.here {α β:Type}{T:Tx}{XE:XEt}{rl:Rl α β}{ρ:List Addr}{H:Hp}{v:α}{s:S}{Q:β->Hp->Prop}{x:β}(h:Out T XE rl ρ H (.ok v s) Q) (sr:SR T ρ s H)(r:rl.r H ρ H v x):Q x H:=h ρ H x .refl sr r
theorem PE.imp {X:Cx}{e:Expr}{t t':TE}(h:PE X e t)(k:∀ σ H Q,t' σ H Q->t σ H Q):PE X e t':=λ pins s σ H Q I hq=>h pins s σ H Q I (k σ H Q hq)
theorem PT.imp {X:Cx}{e:Expr}{t t':TT}(h:PT X e t)(k:∀ σ H Q,t' σ H Q->t σ H Q):PT X e t':=λ pins s σ H Q I hq=>h pins s σ H Q I (k σ H Q hq)
theorem PW.imp {X:Cx}{e:Expr}{t t':TT}(h:PW X e t)(k:∀ σ H Q,t' σ H Q->t σ H Q):PW X e t':=λ wh pins s σ H Q I hq=>h wh pins s σ H Q I (k σ H Q hq)
theorem PA.imp {X:Cx}{e:List Expr}{t t':TA}(h:PA X e t)(k:∀ σ H Q,t' σ H Q->t σ H Q):PA X e t':=λ pos pins s σ H Q I hq=>h pos pins s σ H Q I (k σ H Q hq)
theorem PS.imp {X:Cx}{e:Stmt}{t t':TS}(h:PS X e t)(k:∀ D σ H,t' D σ H->t D σ H):PS X e t':=λ pins s σ H Q I hq=>h pins s σ H Q I (k Q σ H hq)
theorem PSs.imp {X:Cx}{e:List Stmt}{t t':TS}(h:PSs X e t)(k:∀ D σ H,t' D σ H->t D σ H):PSs X e t':=λ pins s σ H Q I hq=>h pins s σ H Q I (k Q σ H hq)
theorem PI.imp {X:Cx}{tg e:Expr}{t t':TI}(h:PI X tg e t)(k:∀ σ H R,t' σ H R->t σ H R):PI X tg e t':=λ pins s σ H Q I hq=>h pins s σ H Q I (k σ H Q hq)
theorem PG.imp {X:Cx}{e:Expr}{t t':TG}(h:PG X e t)(k:∀ v σ H Q,t' v σ H Q->t v σ H Q):PG X e t':=λ pins s σ H v u Q I r hq=>h pins s σ H v u Q I r (k v σ H Q hq)
theorem PGs.imp {X:Cx}{e:List Expr}{t t':TGs}(h:PGs X e t)(k:∀ v σ H Q,t' v σ H Q->t v σ H Q):PGs X e t':=λ pins s σ H v u Q I r hq=>h pins s σ H v u Q I r (k v σ H Q hq)
end Mm
namespace Mm
open PySem L2
abbrev Ev:=En->S->R AV
abbrev Evs:=En->S->R (List AV)
abbrev Eb:=En->S->R Bool
structure Big (i:Int):Prop where
 f:Fit 60000000 i
structure Mid (i:Int):Prop where
 f:Fit 9000 i
noncomputable instance {i:Int}:Decidable (Big i):=Classical.propDecidable _
noncomputable instance {i:Int}:Decidable (Mid i):=Classical.propDecidable _
def rV (T:Tx):Rl AV V:=⟨λ _ ρ H v x=>VR T ρ H v x,λ _ h=>h⟩
def rA (T:Tx):Rl (List AV) (List V):=⟨λ _ ρ H v x=>VRs T ρ H v x,λ _ h=>h⟩
def rB:Rl Bool Bool:=⟨λ _ _ _ b c=>b=c,λ _ h=>h⟩
def rL (T:Tx):Rl (List AV) V:=⟨λ H₀ ρ H xs x=>∃ a vs,x=.ref a/\H₀ a=none/\a∉ρ/\H a=some (.lst vs)/\VRs T ρ H xs vs,λ k ⟨a,vs,e,h,r⟩=>⟨a,vs,e,k a h,r⟩⟩
def rQ (T:Tx):Rl (List AV) V:=⟨λ _ ρ H xs x=>∃ a vs,x=.ref a/\(SqL T.K H a vs∨SqT T.K H a vs)/\VRs T ρ H xs vs,λ _ h=>h⟩
theorem Out.hereV {T:Tx}{XE:XEt}{ρ:List Addr}{H:Hp}{v:AV}{s:S}{Q:VK}{x:V}(h:Out T XE (rV T) ρ H (.ok v s) Q) (sr:SR T ρ s H)(r:VR T ρ H v x):Q x H:=h ρ H x .refl sr r
abbrev tE (T:Tx)(XE:XEt)(m:Ev):TE:=tG T XE (rV T) m
abbrev tL (T:Tx)(XE:XEt)(m:Evs):TE:=tG T XE (rL T) m
abbrev tQ (T:Tx)(XE:XEt)(m:Evs):TE:=tG T XE (rQ T) m
abbrev tP (T:Tx)(XE:XEt)(m:Evs):TA:=tG T XE (rA T) m
abbrev tC' (T:Tx)(XE:XEt)(m:Eb):TT:=tG T XE rB m
section
variable {T:Tx}{XE:XEt}{X:Cx}{pos:Pos}
def mv (i:Nat):Ev:=λ env s=>match env[i]? with
 | some (some v)=>.ok v s
 | _=>.bad
theorem me_v {i:Nat}{e:Expr}(h:PE X e (tVar i)):PE X e (tE T XE (mv i)):=PE.imp h λ σ H Q ⟨ρ,env,s,hs,he,ho⟩=>by
 unfold mv at ho
 split at ho
 ·rename_i v ev
  obtain⟨x,e1,q⟩:=he.get i v ev
  exact⟨x,e1,ho.hereV hs q⟩
 ·exact ho.elim
def mc (v:AV):Ev:=λ _ s=>.ok v s
theorem me_int {i:Int}{j:Nat}:PE X (.Constant (.int i) j pos) (tE T XE (mc (.int i))):=PE.imp pe_int λ σ H Q ⟨ρ,env,s,hs,he,ho⟩=>ho.hereV hs vr_int
theorem me_bl {i:Bool}{j:Nat}:PE X (.Constant (.bool i) j pos) (tE T XE (mc (.bl i))):=PE.imp pe_bl λ σ H Q ⟨ρ,env,s,hs,he,ho⟩=>ho.hereV hs vr_bl
theorem me_non {j:Nat}:PE X (.Constant .none j pos) (tE T XE (mc .non)):=PE.imp pe_non λ σ H Q ⟨ρ,env,s,hs,he,ho⟩=>ho.hereV hs vr_non
theorem me_str {i:Str}{j:Nat}:PE X (.Constant (.str i) j pos) (tE T XE (mc (.str i))):=PE.imp pe_str λ σ H Q ⟨ρ,env,s,hs,he,ho⟩=>ho.hereV hs vr_str
theorem me_glob {x:Str}{v:V}{u:Value}{a:AV}(hg:Gl X x)(hm:X.mg x=some u)(r:RelV v u)(hv:∀ ρ H,VR T ρ H a v)(hd:(x == ("__debug__":Str))=false:=by decide):PE X (.Name x pos) (tE T XE (mc a)):=
 PE.imp (pe_glob hg hm r hd) λ σ H Q ⟨ρ,env,s,hs,he,ho⟩=>ho.hereV hs (hv ρ H)
def r2M (T:Tx)(XE:XEt)(op:AV->AV->S->R AV):R2:=λ x y H Q=>∃ ρ v w s,SR T ρ s H/\VR T ρ H v x/\VR T ρ H w y/\Out T XE (rV T) ρ H (op v w s) Q
def r1M (T:Tx)(XE:XEt)(op:AV->S->R AV):V->Hp->VK->Prop:=λ x H Q=>∃ ρ v s,SR T ρ s H/\VR T ρ H v x/\Out T XE (rV T) ρ H (op v s) Q
def mBin (op:AV->AV->S->R AV)(a b:Ev):Ev:=λ env s=>(a env s).bind λ v s1=>(b env s1).bind λ w s2=>op v w s2
def mUn (op:AV->S->R AV)(a:Ev):Ev:=λ env s=>(a env s).bind λ v s1=>op v s1
theorem t2 {op:AV->AV->S->R AV}{a b:Ev}{σ:St}{H:Hp}{Q:VK}(h:tE T XE (mBin op a b) σ H Q):tOp (r2M T XE op) (tE T XE a) (tE T XE b) σ H Q:=by
 obtain⟨ρ,env,s,hs,he,ho⟩:=h
 exact step hs he ho λ v s1 ρ1 H1 x _ u1 sr1 er1 vr1 ho1=>step sr1 er1 ho1 λ w s2 ρ2 H2 y _ u2 sr2 er2 vr2 ho2=>⟨ρ2,v,w,s2,sr2,VR.up u2 vr1,vr2,ho2⟩
theorem t1 {op:AV->S->R AV}{a:Ev}{σ:St}{H:Hp}{Q:VK}(h:tE T XE (mUn op a) σ H Q):tUn (r1M T XE op) (tE T XE a) σ H Q:=by
 obtain⟨ρ,env,s,hs,he,ho⟩:=h
 exact step hs he ho λ v s1 ρ1 H1 x _ u1 sr1 er1 vr1 ho1=>⟨ρ1,v,s1,sr1,vr1,ho1⟩
theorem me_bin {o:Operator}{op:AV->AV->S->R AV}{a b:Expr}{m1 m2:Ev}(hop:OpR X (binaryOp o) (r2M T XE op)) (ha:PE X a (tE T XE m1)) (hb:PE X b (tE T XE m2)):PE X (.BinOp a o b pos) (tE T XE (mBin op m1 m2)):=
 PE.imp (pe_op hop ha hb) λ _ _ _ h=>t2 h
theorem me_un {o:UnaryOp}{op:AV->S->R AV}{a:Expr}{m1:Ev}(hop:UnR X (unaryOp o) (r1M T XE op)) (ha:PE X a (tE T XE m1)):PE X (.UnaryOp o a pos) (tE T XE (mUn op m1)):=
 PE.imp (pe_un hop ha) λ _ _ _ h=>t1 h
theorem me_cmp {o:CmpOp}{op:AV->AV->S->R AV}{a b:Expr}{m1 m2:Ev}(hop:OpR X (compareOp o) (r2M T XE op)) (ha:PE X a (tE T XE m1)) (hb:PE X b (tE T XE m2)) (hm:behindInMarks o b=false:=by rfl):PE X (.Compare a [o] [b] pos) (tE T XE (mBin op m1 m2)):=
 PE.imp (pe_cmpR hop ha hb hm) λ _ _ _ h=>t2 h
theorem me_ix {op:AV->AV->S->R AV}{a b:Expr}{m1 m2:Ev}(hop:IxR X (r2M T XE op)) (ha:PE X a (tE T XE m1)) (hb:PE X b (tE T XE m2)) (hs:PlainIx b:=by exact λ _ _=>rfl):PE X (.Subscript a b pos) (tE T XE (mBin op m1 m2)):=
 PE.imp (pe_ix hop ha hb hs) λ _ _ _ h=>t2 h
theorem Out.alloc {ρ:List Addr}{H:Hp}{s:S}{o:AO}{u:HO}{p:Addr}{Q:VK}(h:Out T XE (rV T) ρ H (.ok (.ref s.length) (s++[o])) Q) (sr:SR T ρ s H)(hp:H p=none)(k:OR T (ρ++[p]) (upd H p u) o p):Q (.ref p) (upd H p u):=by
 have s1:SR T (ρ++[p]) (s++[o]) (upd H p u):=(sr.new hp).add (sr.out hp) k
 exact h _ _ _ ((sr.upNew hp).add hp) s1 (vr_ref (T:=T) (H:=upd H p u) (by rw[List.getElem?_append_right (by rw[sr.len];exact Nat.le_refl _),sr.len,Nat.sub_self];rfl))
theorem Out.tup {ρ:List Addr}{H:Hp}{s:S}{xs:List AV}{vs:List V}{p:Addr}{Q:VK}(h:Out T XE (rV T) ρ H (.ok (.tup xs) s) Q) (sr:SR T ρ s H)(hp:H p=none)(k:VRs T ρ H xs vs):Q (.ref p) (upd H p (.tup vs)):=
 h _ _ _ (sr.upNew hp) (sr.new hp) (vr_tup (SqT.of upd_same) (VRs.up (sr.upNew hp) k))
theorem Out.lst {ρ:List Addr}{H:Hp}{s:S}{xs:List AV}{vs:List V}{p:Addr}{Q:VK}(h:Out T XE (rL T) ρ H (.ok xs s) Q) (sr:SR T ρ s H)(hp:H p=none)(k:VRs T ρ H xs vs):Q (.ref p) (upd H p (.lst vs)):=
 h _ _ _ (sr.upNew hp) (sr.new hp) ⟨p,vs,rfl,hp,sr.out hp,upd_same,VRs.up (sr.upNew hp) k⟩
theorem SR.lstAt {ρ:List Addr}{H:Hp}{s:S}(sr:SR T ρ s H){i:Nat}{xs:List AV}(e:s[i]? = some (.lst xs)) {x:V}(h:VR T ρ H (.ref i) x):∃ a vs,x=.ref a/\ρ[i]? = some a/\H a=some (.lst vs)/\VRs T ρ H xs vs:=by
 obtain⟨a,e1,vs,h1,h2⟩:=sr.obj i _ e
 obtain⟨b,e2,rfl⟩:=h.ref_inv
 rw[e1]at e2
 cases e2
 exact⟨a,vs,rfl,e1,h1,h2⟩
theorem SR.dKAt {ρ:List Addr}{H:Hp}{s:S}(sr:SR T ρ s H){i:Nat}{xs:List (Key × AV)}(e:s[i]? = some (.dK xs)) {x:V}(h:VR T ρ H (.ref i) x):∃ (a:Addr) (vs:List (Key × V)),x=.ref a/\ρ[i]? = some a/\H a=some (.dK vs)/\xs.map (·.1)=vs.map (·.1)/\VRs T ρ H (xs.map (·.2)) (vs.map (·.2)):=by
 obtain⟨a,e1,vs,h1,h2⟩:=sr.obj i _ e
 obtain⟨b,e2,rfl⟩:=h.ref_inv
 rw[e1]at e2
 cases e2
 exact⟨a,vs,rfl,e1,h1,h2⟩
theorem SR.upSet {ρ:List Addr}{H:Hp}{s:S}(sr:SR T ρ s H){i:Nat}{a:Addr}(e:ρ[i]? = some a){u u0:HO}(h0:H a=some u0)(n1:∀ xs,u0≠.tup xs)(n2:∀ o v,u0≠.frz o v):Up ρ H ρ (upd H a u):=by
 refine⟨⟨List.prefix_rfl,λ b xs h=>?_,λ b o v h=>?_⟩,λ b o h n=>⟨?_,n⟩,λ b h=>?_⟩
 ·rw[upd_ne (ne_of h h0 λ z=>n1 xs z.symm)];exact h
 ·rw[upd_ne (ne_of h h0 λ z=>n2 o v z.symm)];exact h
 ·rw[upd_ne λ z=>n (by rw[z];exact List.mem_of_getElem? e)];exact h
 ·by_cases hb:b=a
  ·subst hb;rw[upd_same]at h;cases h
  ·rw[upd_ne hb]at h;exact h
theorem SR.set {ρ:List Addr}{H:Hp}{s:S}(sr:SR T ρ s H){i:Nat}{a:Addr}(e:ρ[i]? = some a){u:HO}{o:AO}(up:Up ρ H ρ (upd H a u)) (k:OR T ρ (upd H a u) o a):SR T ρ (s.set i o) (upd H a u):=by
 refine⟨sr.nd,by simp[sr.len],λ j q ej=>?_⟩
 by_cases hij:i=j
 ·subst hij
  have hl:i < s.length:=by have:=(List.getElem?_eq_some_iff.mp ej).1;simpa using this
  rw[List.getElem?_set_self hl]at ej
  cases ej
  exact⟨a,e,k⟩
 ·rw[List.getElem?_set_ne hij]at ej
  obtain⟨b,e1,q1⟩:=sr.obj j q ej
  refine⟨b,e1,q1.up up.toGr (upd_ne λ z=>hij ?_)⟩
  subst z
  have h1:=(List.getElem?_eq_some_iff.mp e)
  have h2:=(List.getElem?_eq_some_iff.mp e1)
  exact(List.getElem_inj sr.nd).mp (h1.2.trans h2.2.symm)
theorem Out.ifInv {α β:Type}{rl:Rl α β}{ρ:List Addr}{H:Hp}{c:Prop}{_:Decidable c}{r:R α}{Q:β->Hp->Prop}(h:Out T XE rl ρ H (if c then r else .bad) Q):c/\Out T XE rl ρ H r Q:=by
 by_cases hc:c
 ·rw[if_pos hc]at h;exact⟨hc,h⟩
 ·rw[if_neg hc]at h;exact h.elim
def need {α γ:Type}(o:Option γ)(f:γ->R α):R α:=match o with
 | some x=>f x
 | none=>.bad
@[simp] theorem need_some {α γ:Type}(x:γ) (f:γ->R α):need (some x) f=f x:=rfl
theorem Out.needInv {α β γ:Type}{rl:Rl α β}{ρ:List Addr}{H:Hp}{o:Option γ}{f:γ->R α}{Q:β->Hp->Prop}(h:Out T XE rl ρ H (need o f) Q):∃ x,o=some x/\Out T XE rl ρ H (f x) Q:=by
 cases o with
 | none=>exact h.elim
 | some x=>exact⟨x,rfl,h⟩
def lstO (s:S)(i:Nat):Option (List AV):=match s[i]? with
 | some (.lst xs)=>some xs
 | _=>none
theorem lstO_inv {s:S}{i:Nat}{xs:List AV}(h:lstO s i=some xs):s[i]? = some (.lst xs):=by
 unfold lstO at h
 split at h
 ·cases h;assumption
 ·cases h
theorem lstO_of {s:S}{i:Nat}{xs:List AV}(h:s[i]? = some (.lst xs)):lstO s i=some xs:=by
 unfold lstO;rw[h]
def opAdd:AV->AV->S->R AV
 | .int i,.int j,s=>.ok (.int (i+j)) s
 | .str x,.str y,s=>if x.length+y.length<=sizeLine then .ok (.str (x++y)) s else .bad
 | .tup xs,.tup ys,s=>if ys≠[]/\xs.length+ys.length<=sizeLine then .ok (.tup (xs++ys)) s else .bad
 | .ref i,.ref j,s=>need (lstO s i) λ xs=>need (lstO s j) λ ys=>if xs.length+ys.length<=sizeLine then .ok (.ref s.length) (s++[.lst (xs++ys)]) else .bad
 | _,_,_=>.bad
theorem VRs.ne {ρ:List Addr}{H:Hp}{l:List AV}{xs:List V}(h:VRs T ρ H l xs)(k:l≠[]):xs≠[]:=by
 intro z
 have:=h.length
 rw[z]at this
 exact k (List.length_eq_zero_iff.mp this)
theorem OR.lst {ρ:List Addr}{H:Hp}{a:Addr}{xs:List AV}{vs:List V}(h:H a=some (.lst vs)) (k:VRs T ρ H xs vs):OR T ρ H (.lst xs) a:=⟨vs,h,k⟩
theorem oAdd (hK:X.K=T.K):OpR X (binaryOp .Add) (r2M T XE opAdd):=by
 intro pins s σ H x y v u Q I rx ry ⟨ρ,a,b,st,sr,va,vb,ho⟩
 cases a<;>cases b<;>try exact ho.elim
 ·exact op_add pins s σ H x y v u Q I rx ry ⟨_,_,va.int_inv,vb.int_inv,ho.hereV sr vr_int⟩
 ·obtain⟨hl,ho⟩:=ho.ifInv
  exact op_add_str pins s σ H x y v u Q I rx ry ⟨_,_,va.str_inv,vb.str_inv,hl,ho.hereV sr vr_str⟩
 ·obtain⟨hl,ho⟩:=ho.ifInv
  obtain⟨p,vs,rfl,h1,k1⟩:=va.tup_inv
  obtain⟨q,ws,rfl,h2,k2⟩:=vb.tup_inv
  refine op_catT2 pins s σ H (.ref p) (.ref q) v u Q I rx ry ⟨p,q,vs,ws,rfl,rfl,hK ▸ h1,hK ▸ h2,k2.ne hl.1,by rw[<-k1.length,<-k2.length];exact hl.2,λ hx=>?_,λ _ r hr=>ho.tup sr hr (k1.append k2)⟩
  have hx':vs=[]:=hx
  subst hx'
  exact ho.hereV sr (vr_tup h2 (k1.append k2))
 ·obtain⟨xs,e1,ho⟩:=ho.needInv
  obtain⟨ys,e2,ho⟩:=ho.needInv
  obtain⟨hl,ho⟩:=ho.ifInv
  obtain⟨p,vs,rfl,_,h1,k1⟩:=sr.lstAt (lstO_inv e1) va
  obtain⟨q,ws,rfl,_,h2,k2⟩:=sr.lstAt (lstO_inv e2) vb
  refine op_cat pins s σ H (.ref p) (.ref q) v u Q I rx ry ⟨p,q,vs,ws,rfl,rfl,h1,h2,by rw[<-k1.length,<-k2.length];exact hl,λ r hr=>ho.alloc sr hr ?_⟩
  exact OR.lst upd_same (VRs.gr ((sr.upNew hr).add hr).toGr (k1.append k2))
def opSub:AV->AV->S->R AV
 | .int i,.int j,s=>.ok (.int (i - j)) s
 | _,_,_=>.bad
theorem oSub:OpR X (binaryOp .Sub) (r2M T XE opSub):=by
 intro pins s σ H x y v u Q I rx ry ⟨ρ,a,b,st,sr,va,vb,ho⟩
 cases a<;>cases b<;>try exact ho.elim
 exact op_sub pins s σ H x y v u Q I rx ry ⟨_,_,va.int_inv,vb.int_inv,ho.hereV sr vr_int⟩
noncomputable def opMul:AV->AV->S->R AV
 | .int i,.int j,s=>if Big i/\Big j then .ok (.int (i * j)) s else .bad
 | _,_,_=>.bad
theorem oMul:OpR X (binaryOp .Mult) (r2M T XE opMul):=by
 intro pins s σ H x y v u Q I rx ry ⟨ρ,a,b,st,sr,va,vb,ho⟩
 cases a<;>cases b<;>try exact ho.elim
 obtain⟨hl,ho⟩:=ho.ifInv
 exact op_mulG pins s σ H x y v u Q I rx ry ⟨_,_,va.int_inv,vb.int_inv,⟨hl.1.f,hl.2.f⟩,ho.hereV sr vr_int⟩
noncomputable def opFdiv:AV->AV->S->R AV
 | .int i,.int j,s=>if j≠0/\Mid j then .ok (.int (i.fdiv j)) s else .bad
 | _,_,_=>.bad
theorem oFdiv:OpR X (binaryOp .FloorDiv) (r2M T XE opFdiv):=by
 intro pins s σ H x y v u Q I rx ry ⟨ρ,a,b,st,sr,va,vb,ho⟩
 cases a<;>cases b<;>try exact ho.elim
 obtain⟨hl,ho⟩:=ho.ifInv
 exact op_fdivG pins s σ H x y v u Q I rx ry ⟨_,_,va.int_inv,vb.int_inv,⟨hl.1,hl.2.f⟩,ho.hereV sr vr_int⟩
def opMod:AV->AV->S->R AV
 | .int i,.int j,s=>if j≠0 then .ok (.int (i.fmod j)) s else .bad
 | _,_,_=>.bad
theorem oMod:OpR X (binaryOp .Mod) (r2M T XE opMod):=by
 intro pins s σ H x y v u Q I rx ry ⟨ρ,a,b,st,sr,va,vb,ho⟩
 cases a<;>cases b<;>try exact ho.elim
 obtain⟨hl,ho⟩:=ho.ifInv
 exact op_modN pins s σ H x y v u Q I rx ry ⟨_,_,va.int_inv,vb.int_inv,hl,ho.hereV sr vr_int⟩
instance {i j:Int}:Decidable (CPow i j):=inferInstanceAs (Decidable (0<=j/\j<=1000000/\i.natAbs < 2 ^ 64))
def opPow:AV->AV->S->R AV
 | .int i,.int j,s=>if CPow i j then .ok (.int (i ^ j.toNat)) s else .bad
 | _,_,_=>.bad
theorem oPow:OpR X (binaryOp .Pow) (r2M T XE opPow):=by
 intro pins s σ H x y v u Q I rx ry ⟨ρ,a,b,st,sr,va,vb,ho⟩
 cases a<;>cases b<;>try exact ho.elim
 obtain⟨hl,ho⟩:=ho.ifInv
 exact op_pow pins s σ H x y v u Q I rx ry ⟨_,_,va.int_inv,vb.int_inv,hl,ho.hereV sr vr_int⟩
def opNeg:AV->S->R AV
 | .int i,s=>.ok (.int (-i)) s
 | _,_=>.bad
theorem oNeg:UnR X (unaryOp .USub) (r1M T XE opNeg):=by
 intro pins s σ H x v Q I rx ⟨ρ,a,st,sr,va,ho⟩
 cases a<;>try exact ho.elim
 exact un_neg pins s σ H x v Q I rx ⟨_,va.int_inv,ho.hereV sr vr_int⟩
def opLt:AV->AV->S->R AV
 | .int i,.int j,s=>.ok (.bl (decide (i < j))) s
 | .str i,.str j,s=>.ok (.bl (decide (i.cps.toList < j.cps.toList))) s
 | _,_,_=>.bad
theorem oLt:OpR X (compareOp .Lt) (r2M T XE opLt):=by
 intro pins s σ H x y v u Q I rx ry ⟨ρ,a,b,st,sr,va,vb,ho⟩
 cases a<;>cases b<;>try exact ho.elim
 ·exact op_lt pins s σ H x y v u Q I rx ry ⟨_,_,va.int_inv,vb.int_inv,ho.hereV sr vr_bl⟩
 ·exact op_lt_str pins s σ H x y v u Q I rx ry ⟨_,_,va.str_inv,vb.str_inv,ho.hereV sr vr_bl⟩
def opLe:AV->AV->S->R AV
 | .int i,.int j,s=>.ok (.bl (decide (i<=j))) s
 | _,_,_=>.bad
theorem oLe:OpR X (compareOp .LtE) (r2M T XE opLe):=by
 intro pins s σ H x y v u Q I rx ry ⟨ρ,a,b,st,sr,va,vb,ho⟩
 cases a<;>cases b<;>try exact ho.elim
 exact op_le pins s σ H x y v u Q I rx ry ⟨_,_,va.int_inv,vb.int_inv,ho.hereV sr vr_bl⟩
def opGt:AV->AV->S->R AV
 | .int i,.int j,s=>.ok (.bl (decide (j < i))) s
 | _,_,_=>.bad
theorem oGt:OpR X (compareOp .Gt) (r2M T XE opGt):=by
 intro pins s σ H x y v u Q I rx ry ⟨ρ,a,b,st,sr,va,vb,ho⟩
 cases a<;>cases b<;>try exact ho.elim
 exact op_gt pins s σ H x y v u Q I rx ry ⟨_,_,va.int_inv,vb.int_inv,ho.hereV sr vr_bl⟩
def opGe:AV->AV->S->R AV
 | .int i,.int j,s=>.ok (.bl (decide (j<=i))) s
 | _,_,_=>.bad
theorem oGe:OpR X (compareOp .GtE) (r2M T XE opGe):=by
 intro pins s σ H x y v u Q I rx ry ⟨ρ,a,b,st,sr,va,vb,ho⟩
 cases a<;>cases b<;>try exact ho.elim
 exact op_ge pins s σ H x y v u Q I rx ry ⟨_,_,va.int_inv,vb.int_inv,ho.hereV sr vr_bl⟩
def toD:Nat->S->AV->Option Dt
 | _,_,.non=>some .non
 | _,_,.bl b=>some (.bl b)
 | _,_,.int b=>some (.int b)
 | _,_,.str b=>some (.str b)
 | n+1,s,.tup xs=>(xs.mapM (toD n s)).map .tup
 | n+1,s,.sq xs=>(xs.mapM (toD n s)).map .lst
 | n+1,s,.ref i=>(lstO s i).bind λ xs=>(xs.mapM (toD n s)).map .lst
 | _,_,_=>none
theorem mapM_cons' {α β:Type}{f:α->Option β}{a:α}{l:List α}{r:List β}(h:(a :: l).mapM f=some r):∃ b q,f a=some b/\l.mapM f=some q/\r=b :: q:=by
 rw[List.mapM_cons]at h
 cases e1:f a with
 | none=>rw[e1]at h;cases h
 | some b=>
  cases e2:l.mapM f with
  | none=>rw[e1,e2]at h;cases h
  | some q=>rw[e1,e2]at h;cases h;exact⟨b,q,rfl,rfl,rfl⟩
theorem reps_of {ρ:List Addr}{H:Hp}{f:AV->Option Dt}(hf:∀ v d x,f v=some d->VR T ρ H v x->Rep T.K (λ _=>False) H d x):∀ {xs:List AV}{l:List Dt}{vs:List V},xs.mapM f=some l->VRs T ρ H xs vs->RepL T.K (λ _=>False) H l vs
 | [],l,vs,h,k=>by
  rw[List.mapM_nil]at h
  cases h
  unfold RepL
  exact k.nil_inv
 | a :: r,l,vs,h,k=>by
  obtain⟨b,q,h1,h2,rfl⟩:=mapM_cons' h
  obtain⟨x,ys,rfl,k1,k2⟩:=k.cons_inv
  unfold RepL
  exact⟨x,ys,rfl,hf a b x h1 k1,reps_of hf h2 k2⟩
theorem rep_of {ρ:List Addr}{H:Hp}{s:S}(sr:SR T ρ s H):∀ (n:Nat) (v:AV) (d:Dt) (x:V),toD n s v=some d->VR T ρ H v x->Rep T.K (λ _=>False) H d x
 | n,.non,d,x,h,k=>by
  have h:some Dt.non=some d:=by cases n<;>exact h
  cases h;unfold Rep;exact k.non_inv
 | n,.bl b,d,x,h,k=>by
  have h:some (Dt.bl b)=some d:=by cases n<;>exact h
  cases h;unfold Rep;exact k.bl_inv
 | n,.int b,d,x,h,k=>by
  have h:some (Dt.int b)=some d:=by cases n<;>exact h
  cases h;unfold Rep;exact k.int_inv
 | n,.str b,d,x,h,k=>by
  have h:some (Dt.str b)=some d:=by cases n<;>exact h
  cases h;unfold Rep;exact k.str_inv
 | 0,.tup xs,d,x,h,k=>by cases h
 | 0,.sq xs,d,x,h,k=>by cases h
 | 0,.ref xs,d,x,h,k=>by cases h
 | n+1,.tup xs,d,x,h,k=>by
  have h:(xs.mapM (toD n s)).map Dt.tup=some d:=h
  obtain⟨a,vs,rfl,h1,k1⟩:=k.tup_inv
  cases e:xs.mapM (toD n s) with
  | none=>rw[e]at h;cases h
  | some l=>
   rw[e]at h;cases h
   unfold Rep
   exact⟨a,vs,rfl,λ z=>z,h1,reps_of (λ v d x=>rep_of sr n v d x) e k1⟩
 | n+1,.sq xs,d,x,h,k=>by
  have h:(xs.mapM (toD n s)).map Dt.lst=some d:=h
  obtain⟨a,vs,rfl,h1,k1⟩:=k.sq_inv
  cases e:xs.mapM (toD n s) with
  | none=>rw[e]at h;cases h
  | some l=>
   rw[e]at h;cases h
   unfold Rep
   exact⟨a,vs,rfl,λ z=>z,h1.sqL,reps_of (λ v d x=>rep_of sr n v d x) e k1⟩
 | n+1,.ref i,d,x,h,k=>by
  have h:(lstO s i).bind (λ xs=>(xs.mapM (toD n s)).map Dt.lst)=some d:=h
  cases e0:lstO s i with
  | none=>rw[e0]at h;cases h
  | some xs=>
   rw[e0]at h
   have h:(xs.mapM (toD n s)).map Dt.lst=some d:=h
   obtain⟨a,vs,rfl,_,h1,k1⟩:=sr.lstAt (lstO_inv e0) k
   cases e:xs.mapM (toD n s) with
   | none=>rw[e]at h;cases h
   | some l=>
    rw[e]at h;cases h
    unfold Rep
    exact⟨a,vs,rfl,λ z=>z,SqL.of h1,reps_of (λ v d x=>rep_of sr n v d x) e k1⟩
def eqAV (s:S):AV->AV->Option Bool
 | .non,.non=>some true
 | .non,.int _=>some false|.int _,.non=>some false|.non,.bl _=>some false|.bl _,.non=>some false|.non,.str _=>some false|.str _,.non=>some false
 | .int i,.int j=>some (decide (i=j))
 | .bl i,.bl j=>some (decide (i=j))
 | .str i,.str j=>some (decide (i=j))
 | .int _,.str _=>some false|.str _,.int _=>some false|.bl _,.str _=>some false|.str _,.bl _=>some false
 | v,w=>match toD 20 s v,toD 20 s w with
  | some (.tup l),some (.tup q)=>if depL l<=20 then some (eqDL l q) else none
  | some (.lst l),some (.lst q)=>if depL l<=20 then some (eqDL l q) else none
  | _,_=>none
def opEq (v w:AV)(s:S):R AV:=need (eqAV s v w) λ b=>.ok (.bl b) s
def opNe (v w:AV)(s:S):R AV:=need (eqAV s v w) λ b=>.ok (.bl (!b)) s
def EqRest (s:S)(v w:AV)(b:Bool):Prop:=∃ (c:Bool) (l q:List Dt),toD 20 s v=some (if c then .tup l else .lst l)/\toD 20 s w=some (if c then .tup q else .lst q)/\depL l<=20/\b=eqDL l q
theorem eqRest_of {s:S}{v w:AV}{b:Bool}(h:(match toD 20 s v,toD 20 s w with
  | some (.tup l),some (.tup q)=>if depL l<=20 then some (eqDL l q) else none
  | some (.lst l),some (.lst q)=>if depL l<=20 then some (eqDL l q) else none
  | _,_=>none)=some b):EqRest s v w b:=by
 split at h
 ·rename_i l q e1 e2
  split at h
  ·rename_i hd
   cases h
   exact⟨true,l,q,e1,e2,hd,rfl⟩
  ·cases h
 ·rename_i l q e1 e2
  split at h
  ·rename_i hd
   cases h
   exact⟨false,l,q,e1,e2,hd,rfl⟩
  ·cases h
 ·cases h
theorem eqAV_inv {ρ:List Addr}{H:Hp}{s:S}{v w:AV}{b:Bool}{x y:V}(h:eqAV s v w=some b)(va:VR T ρ H v x)(vb:VR T ρ H w y):(scal x y=true/\decide (x=y)=b)∨EqRest s v w b:=by
  cases v<;>cases w<;>first
    | exact .inr (eqRest_of h)
    | (refine .inl ?_
       have h:some _=some b:=h
       cases h
       first
         | cases va.non_inv|cases va.int_inv|cases va.bl_inv|cases va.str_inv
       first
         | cases vb.non_inv|cases vb.int_inv|cases vb.bl_inv|cases vb.str_inv
       refine⟨rfl,?_⟩
       first
         | rfl
         | simp)
theorem oEq (hK:X.K=T.K)(hu:X.A.units+30 < cLine):OpR X (compareOp .Eq) (r2M T XE opEq):=by
 intro pins s σ H x y v u Q I rx ry ⟨ρ,a,b,st,sr,va,vb,ho⟩
 obtain⟨c,e,ho⟩:=ho.needInv
 rcases eqAV_inv e va vb with⟨h1,h2⟩|⟨t,l,q,e1,e2,hd,rfl⟩
 ·exact op_eq pins s σ H x y v u Q I rx ry ⟨h1,by rw[h2];exact ho.hereV sr vr_bl⟩
 ·refine op_eqD hu pins s σ H x y v u Q I rx ry ⟨λ _=>False,λ _=>False,l,q,t,⟨?_,?_⟩,hd,ho.hereV sr vr_bl⟩
  ·exact hK ▸ rep_of sr 20 _ _ _ e1 va
  ·exact hK ▸ rep_of sr 20 _ _ _ e2 vb
theorem oNe (hK:X.K=T.K)(hu:X.A.units+30 < cLine):OpR X (compareOp .NotEq) (r2M T XE opNe):=by
 intro pins s σ H x y v u Q I rx ry ⟨ρ,a,b,st,sr,va,vb,ho⟩
 obtain⟨c,e,ho⟩:=ho.needInv
 rcases eqAV_inv e va vb with⟨h1,h2⟩|⟨t,l,q,e1,e2,hd,rfl⟩
 ·exact op_ne pins s σ H x y v u Q I rx ry ⟨h1,by rw[h2];exact ho.hereV sr vr_bl⟩
 ·refine op_neD hu pins s σ H x y v u Q I rx ry ⟨λ _=>False,λ _=>False,l,q,t,⟨?_,?_⟩,hd,ho.hereV sr vr_bl⟩
  ·exact hK ▸ rep_of sr 20 _ _ _ e1 va
  ·exact hK ▸ rep_of sr 20 _ _ _ e2 vb
def isNon:AV->Bool
 | .non=>true
 | _=>false
def opIsN:AV->AV->S->R AV
 | v,.non,s=>.ok (.bl (isNon v)) s
 | _,_,_=>.bad
def opIsntN:AV->AV->S->R AV
 | v,.non,s=>.ok (.bl (!isNon v)) s
 | .bl a,.bl b,s=>.ok (.bl (a != b)) s
 | _,_,_=>.bad
theorem isNon_eq {ρ:List Addr}{H:Hp}{v:AV}{x:V}(h:VR T ρ H v x):decide (x=.non)=isNon v:=by
 cases v
 ·cases h.non_inv;rfl
 ·cases h.bl_inv;rfl
 ·cases h.int_inv;rfl
 ·cases h.str_inv;rfl
 ·obtain⟨_,_,rfl,_⟩:=h.tup_inv;rfl
 ·obtain⟨_,_,rfl⟩:=h.ref_inv;rfl
 ·obtain⟨_,_,rfl,_⟩:=h.sq_inv;rfl
theorem oIsntN:OpR X (compareOp .IsNot) (r2M T XE opIsntN):=by
 intro pins s σ H x y v u Q I rx ry ⟨ρ,a,b,st,sr,va,vb,ho⟩
 cases b
 ·exact op_notN pins s σ H x y v u Q I rx ry ⟨vb.non_inv,by rw[isNon_eq va];cases a<;>exact ho.hereV sr vr_bl⟩
 ·cases a<;>try exact ho.elim
  exact op_isnotB pins s σ H x y v u Q I rx ry ⟨_,_,va.bl_inv,vb.bl_inv,ho.hereV sr vr_bl⟩
 all_goals (cases a<;>exact ho.elim)
end
end Mm
namespace Mm
open PySem L2
section
variable {T:Tx}{XE:XEt}{X:Cx}{pos:Pos}
def pNil:Evs:=λ _ s=>.ok [] s
def pCons (a:Ev)(r:Evs):Evs:=λ env s=>(a env s).bind λ v s1=>(r env s1).bind λ vs s2=>.ok (v :: vs) s2
theorem pa_nil':PA X [] (tP T XE pNil):=PA.imp pa_nil λ σ H Q ⟨ρ,env,s,hs,he,ho⟩=>ho.here (x:=[]) hs (VRs.nil (T:=T) (ρ:=ρ) (H:=H))
theorem pa_cons' {e:Expr}{es:List Expr}{m:Ev}{r:Evs}(ha:PE X e (tE T XE m)) (hr:PA X es (tP T XE r)) (hs:starEach (e :: es) X.env=(false,eval e X.env) :: starEach es X.env:=by rfl):PA X (e :: es) (tP T XE (pCons m r)):=
 PA.imp (pa_cons ha hr hs) λ σ H Q ⟨ρ,env,s,hs,he,ho⟩=>
  step hs he ho λ v s1 ρ1 H1 x _ u1 sr1 er1 vr1 ho1=>step sr1 er1 ho1 λ w s2 ρ2 H2 y _ u2 sr2 er2 vr2 ho2=>ho2.here sr2 (VRs.cons (VR.up u2 vr1) vr2)
def mTup (r:Evs):Ev:=λ env s=>(r env s).bind λ vs s1=>if vs.length<=sizeLine then .ok (.tup vs) s1 else .bad
theorem me_tup {es:List Expr}{k:Nat}{r:Evs}(h:PA X es (tP T XE r)):PE X (.Tuple es k pos) (tE T XE (mTup r)):=
 PE.imp (pe_tup h) λ σ H Q ⟨ρ,env,s,hs,he,ho⟩=>step hs he ho λ v s1 ρ1 H1 x _ u1 sr1 er1 vr1 ho1=>by
  obtain⟨hl,ho1⟩:=ho1.ifInv
  have vr1:VRs T ρ1 H1 v x:=vr1
  exact⟨by rw[<-vr1.length];exact hl,λ p hp=>ho1.tup sr1 hp vr1⟩
def lLst (r:Evs):Evs:=λ env s=>(r env s).bind λ vs s1=>if vs.length<=sizeLine then .ok vs s1 else .bad
theorem ml_lst {es:List Expr}{r:Evs}(h:PA X es (tP T XE r)):PE X (.List es pos) (tL T XE (lLst r)):=
 PE.imp (pe_lst h) λ σ H Q ⟨ρ,env,s,hs,he,ho⟩=>step hs he ho λ v s1 ρ1 H1 x _ u1 sr1 er1 vr1 ho1=>by
  obtain⟨hl,ho1⟩:=ho1.ifInv
  have vr1:VRs T ρ1 H1 v x:=vr1
  exact⟨by rw[<-vr1.length];exact hl,λ p hp=>ho1.lst sr1 hp vr1⟩
def mNew (r:Evs):Ev:=λ env s=>(r env s).bind λ vs s1=>.ok (.ref s1.length) (s1++[.lst vs])
theorem me_new {e:Expr}{r:Evs}(h:PE X e (tL T XE r)):PE X e (tE T XE (mNew r)):=
 PE.imp h λ σ H Q ⟨ρ,env,s,hs,he,ho⟩=>by
  refine⟨ρ,env,s,hs,he,?_⟩
  unfold mNew at ho
  cases e:r env s with
  | bad=>rw[e]at ho;exact ho
  | ex c s1=>rw[e]at ho;exact ho
  | ok vs s1=>
   rw[e]at ho
   intro ρ1 H1 x u sr ⟨a,ws,e1,h0,h1,h2,k⟩
   subst e1
   have g:Gr ρ1 H1 (ρ1++[a]) H1:=⟨List.prefix_append _ _,λ _ _ z=>z,λ _ _ _ z=>z⟩
   refine ho (ρ1++[a]) H1 (.ref a) (u.add h0) (sr.add h1 (OR.lst h2 (k.gr g))) (vr_ref (T:=T) (H:=H1) ?_)
   rw[List.getElem?_append_right (by rw[sr.len];exact Nat.le_refl _),sr.len,Nat.sub_self];rfl
def items (v:AV)(s:S):Option (List AV):=match v with
 | .tup xs=>some xs
 | .sq xs=>some xs
 | .ref i=>lstO s i
 | _=>none
theorem items_inv {ρ:List Addr}{H:Hp}{s:S}{v:AV}{xs:List AV}{x:V}(h:items v s=some xs)(sr:SR T ρ s H)(va:VR T ρ H v x):∃ a vs,x=.ref a/\(SqL T.K H a vs∨SqT T.K H a vs)/\VRs T ρ H xs vs:=by
 cases v<;>try cases h
 ·obtain⟨a,vs,rfl,h1,k⟩:=va.tup_inv
  exact⟨a,vs,rfl,.inr h1,k⟩
 ·obtain⟨a,vs,rfl,_,h1,k⟩:=sr.lstAt (lstO_inv h) va
  exact⟨a,vs,rfl,.inl (SqL.of h1),k⟩
 ·obtain⟨a,vs,rfl,h1,k⟩:=va.sq_inv
  exact⟨a,vs,rfl,.inl h1.sqL,k⟩
def lIts (m:Ev):Evs:=λ env s=>(m env s).bind λ v s1=>need (items v s1) λ xs=>.ok xs s1
theorem mq_its {e:Expr}{m:Ev}(h:PE X e (tE T XE m)):PE X e (tQ T XE (lIts m)):=
 PE.imp h λ σ H Q ⟨ρ,env,s,hs,he,ho⟩=>step hs he ho λ v s1 ρ1 H1 x _ u1 sr1 er1 vr1 ho1=>by
  obtain⟨xs,e,ho1⟩:=ho1.needInv
  exact ho1 ρ1 H1 x .refl sr1 (items_inv e sr1 vr1)
mutual
def AV.low (b:Nat):AV->Bool
 | .ref i=>decide (i < b)
 | .tup xs=>lowL b xs
 | .sq xs=>lowL b xs
 | _=>true
def lowL (b:Nat):List AV->Bool
 | []=>true
 | v :: r=>v.low b && lowL b r
end
mutual
theorem VR.cut {ρ ρ':List Addr}{H:Hp}{b:Nat}(e:ρ'.take b=ρ):∀ {v:AV}{x:V},v.low b=true->VR T ρ' H v x->VR T ρ H v x
 | .non,_,_,h=>by unfold VR at *;exact h
 | .bl _,_,_,h=>by unfold VR at *;exact h
 | .int _,_,_,h=>by unfold VR at *;exact h
 | .str _,_,_,h=>by unfold VR at *;exact h
 | .ref i,_,k,h=>by
  obtain⟨a,e1,rfl⟩:=h.ref_inv
  unfold AV.low at k
  exact vr_ref (by rw[<-e,List.getElem?_take_of_lt (of_decide_eq_true k)];exact e1)
 | .tup xs,_,k,h=>by
  obtain⟨a,vs,rfl,h1,h2⟩:=h.tup_inv
  unfold AV.low at k
  exact vr_tup h1 (VRs.cut e k h2)
 | .sq xs,_,k,h=>by
  obtain⟨a,vs,rfl,h1,h2⟩:=h.sq_inv
  unfold AV.low at k
  unfold VR
  exact⟨a,vs,rfl,h1,VRs.cut e k h2⟩
theorem VRs.cut {ρ ρ':List Addr}{H:Hp}{b:Nat}(e:ρ'.take b=ρ):∀ {v:List AV}{x:List V},lowL b v=true->VRs T ρ' H v x->VRs T ρ H v x
 | [],_,_,h=>by cases h.nil_inv;exact .nil
 | _ :: _,_,k,h=>by
  obtain⟨x,ys,rfl,h1,h2⟩:=h.cons_inv
  unfold lowL at k
  rw[Bool.and_eq_true]at k
  exact .cons (VR.cut e k.1 h1) (VRs.cut e k.2 h2)
end
mutual
theorem VR.low {ρ:List Addr}{H:Hp}:∀ {v:AV}{x:V},VR T ρ H v x->v.low ρ.length=true
 | .non,_,_=>by unfold AV.low;rfl
 | .bl _,_,_=>by unfold AV.low;rfl
 | .int _,_,_=>by unfold AV.low;rfl
 | .str _,_,_=>by unfold AV.low;rfl
 | .ref i,_,h=>by
  obtain⟨a,e1,rfl⟩:=h.ref_inv
  unfold AV.low
  exact decide_eq_true (List.getElem?_eq_some_iff.mp e1).1
 | .tup xs,_,h=>by
  obtain⟨a,vs,rfl,h1,h2⟩:=h.tup_inv
  unfold AV.low
  exact VRs.low h2
 | .sq xs,_,h=>by
  obtain⟨a,vs,rfl,h1,h2⟩:=h.sq_inv
  unfold AV.low
  exact VRs.low h2
theorem VRs.low {ρ:List Addr}{H:Hp}:∀ {v:List AV}{x:List V},VRs T ρ H v x->lowL ρ.length v=true
 | [],_,_=>by unfold lowL;rfl
 | _ :: _,_,h=>by
  obtain⟨x,ys,rfl,h1,h2⟩:=h.cons_inv
  unfold lowL
  rw[VR.low h1,VRs.low h2];rfl
end
def AO.low (b:Nat):AO->Bool
 | .lst xs=>lowL b xs
 | .dK kvs=>lowL b (kvs.map (·.2))
 | .dT kvs=>lowL b (kvs.map (·.2))
 | .ins _ fs=>lowL b (fs.map (·.2))
 | .exc _=>true
 | .tab _ _=>true
theorem OR.low {ρ:List Addr}{H:Hp}{o:AO}{a:Addr}(h:OR T ρ H o a):o.low ρ.length=true:=by
 cases o with
 | lst xs=>obtain⟨_,_,k⟩:=h;exact k.low
 | dK xs=>obtain⟨_,_,_,k⟩:=h;exact k.low
 | dT xs=>obtain⟨_,_,_,k⟩:=h;exact k.low
 | ins C xs=>obtain⟨_,_,_,_,k⟩:=h;exact k.low
 | exc C=>rfl
 | tab i q=>rfl
theorem OR.cut {ρ ρ':List Addr}{H:Hp}{b:Nat}(e:ρ'.take b=ρ){o:AO}{a:Addr}(k:o.low b=true)(h:OR T ρ' H o a):OR T ρ H o a:=by
 cases o with
 | lst xs=>obtain⟨vs,h1,h2⟩:=h;exact⟨vs,h1,VRs.cut e k h2⟩
 | dK xs=>obtain⟨vs,h1,q,h2⟩:=h;exact⟨vs,h1,q,VRs.cut e k h2⟩
 | dT xs=>obtain⟨vs,h1,q,h2⟩:=h;exact⟨vs,h1,q,VRs.cut e k h2⟩
 | ins C xs=>obtain⟨dx,vs,h1,q,h2⟩:=h;exact⟨dx,vs,h1,q,VRs.cut e k h2⟩
 | exc C=>exact h
 | tab i q=>exact h
theorem SR.closed {ρ:List Addr}{H:Hp}{s:S}(sr:SR T ρ s H):s.all (AO.low s.length)=true:=by
 rw[List.all_eq_true]
 intro o ho
 obtain⟨i,hi,e⟩:=List.getElem_of_mem ho
 obtain⟨a,_,q⟩:=sr.obj i o (by rw[List.getElem?_eq_getElem hi,e])
 rw[<-sr.len]
 exact q.low
theorem SR.cut {ρ ρ':List Addr}{H:Hp}{s':S}{b:Nat}(sr:SR T ρ' s' H)(hl:ρ <+: ρ')(hb:ρ.length=b)(k:(s'.take b).all (AO.low b)=true):SR T ρ (s'.take b) H:=by
 have e:ρ'.take b=ρ:=by obtain⟨t,rfl⟩:=hl;rw[<-hb,List.take_left'];rfl
 have hle:b<=s'.length:=by rw[<-hb,<-sr.len];exact hl.length_le
 refine⟨?_,by rw[List.length_take,Nat.min_eq_left hle];exact hb,λ i o ei=>?_⟩
 ·rw[<-e];exact sr.nd.sublist (List.take_sublist _ _)
 ·have hi:i < b:=by have:=(List.getElem?_eq_some_iff.mp ei).1;rw[List.length_take]at this;omega
  have ei':=ei
  rw[List.getElem?_take_of_lt hi]at ei
  obtain⟨a,e1,q⟩:=sr.obj i o ei
  refine⟨a,by rw[<-e,List.getElem?_take_of_lt hi];exact e1,q.cut e ?_⟩
  exact List.all_eq_true.mp k o (List.mem_of_getElem? ei')
theorem Up.cut {ρ ρ':List Addr}{H H':Hp}(u:Up ρ H ρ' H'):Up ρ H ρ H':=⟨⟨List.prefix_rfl,u.tups,u.frzs⟩,λ b o e n=>⟨(u.fr b o e n).1,n⟩,u.live⟩
noncomputable def gcE (m:Ev):Ev:=λ env s=>(m env s).bind λ v s1=>open Classical in if s1.take s.length=s/\v.low s.length=true then .ok v s else .bad
theorem me_gc {e:Expr}{m:Ev}(h:PE X e (tE T XE m)):PE X e (tE T XE (gcE m)):=
 PE.imp h λ σ H Q ⟨ρ,env,s,hs,he,ho⟩=>by
  refine⟨ρ,env,s,hs,he,?_⟩
  unfold gcE at ho
  cases e:m env s with
  | bad=>rw[e]at ho;exact ho
  | ex c s1=>rw[e]at ho;exact ho
  | ok v s1=>
   rw[e]at ho
   obtain⟨⟨e1,e2⟩,ho⟩:=ho.ifInv
   intro ρ1 H1 x u sr vr
   have hc:=hs.closed
   have et:ρ1.take s.length=ρ:=by obtain⟨t,rfl⟩:=u.pre;rw[<-hs.len,List.take_left'];rfl
   refine ho ρ H1 x u.cut ?_ (VR.cut et e2 vr)
   have:=sr.cut u.pre hs.len (by rw[e1];exact hc)
   rw[e1]at this
   exact this
def gcM (m:Ev):Ev:=λ env s=>(m env s).bind λ v s1=>if (s1.take s.length).all (AO.low s.length)=true/\v.low s.length=true then .ok v (s1.take s.length) else .bad
theorem me_gcM {e:Expr}{m:Ev}(h:PE X e (tE T XE m)):PE X e (tE T XE (gcM m)):=
 PE.imp h λ σ H Q ⟨ρ,env,s,hs,he,ho⟩=>by
  refine⟨ρ,env,s,hs,he,?_⟩
  unfold gcM at ho
  cases e:m env s with
  | bad=>rw[e]at ho;exact ho
  | ex c s1=>rw[e]at ho;exact ho
  | ok v s1=>
   rw[e]at ho
   obtain⟨⟨e1,e2⟩,ho⟩:=ho.ifInv
   intro ρ1 H1 x u sr vr
   have et:ρ1.take s.length=ρ:=by obtain⟨t,rfl⟩:=u.pre;rw[<-hs.len,List.take_left'];rfl
   exact ho ρ H1 x u.cut (sr.cut u.pre hs.len e1) (VR.cut et e2 vr)
def lTake (m:Ev):Evs:=λ env s=>(m env s).bind λ v s1=>match v with
 | .ref k=>need (lstO s1 k) λ xs=>if s.length<=k/\(s1.take s.length).all (AO.low s.length)=true/\lowL s.length xs=true then .ok xs (s1.take s.length) else .bad
 | _=>.bad
theorem ml_take {e:Expr}{m:Ev}(h:PE X e (tE T XE m)):PE X e (tL T XE (lTake m)):=
 PE.imp h λ σ H Q ⟨ρ,env,s,hs,he,ho⟩=>by
  refine⟨ρ,env,s,hs,he,?_⟩
  unfold lTake at ho
  cases e:m env s with
  | bad=>rw[e]at ho;exact ho
  | ex c s1=>rw[e]at ho;exact ho
  | ok v s1=>
   rw[e]at ho
   cases v with
   | ref k=>
    obtain⟨xs,e0,ho⟩:=ho.needInv
    obtain⟨⟨hk,e1,e2⟩,ho⟩:=ho.ifInv
    intro ρ1 H1 x u sr vr
    obtain⟨a,vs,rfl,ea,h1,k1⟩:=sr.lstAt (lstO_inv e0) vr
    have et:ρ1.take s.length=ρ:=by obtain⟨t,rfl⟩:=u.pre;rw[<-hs.len,List.take_left'];rfl
    have na:a∉ρ:=λ z=>by
     obtain⟨j,hj,ej⟩:=List.getElem_of_mem z
     have e3:ρ1[j]? = some a:=pre_get u.pre (by rw[List.getElem?_eq_getElem hj,ej])
     have h3:=List.getElem?_eq_some_iff.mp ea
     have h4:=List.getElem?_eq_some_iff.mp e3
     have:k=j:=(List.getElem_inj sr.nd).mp (h3.2.trans h4.2.symm)
     rw[hs.len]at hj
     omega
    refine ho ρ H1 (.ref a) u.cut (sr.cut u.pre hs.len e1) ⟨a,vs,rfl,?_,na,h1,VRs.cut et e2 k1⟩
    cases eH:H a with
    | none=>rfl
    | some o=>exact absurd (List.mem_of_getElem? ea) (u.fr a o eH na).2
   | non=>exact ho.elim
   | bl b=>exact ho.elim
   | int b=>exact ho.elim
   | str b=>exact ho.elim
   | tup b=>exact ho.elim
   | sq b=>exact ho.elim
end
end Mm
namespace Mm
open PySem L2
section
variable {T:Tx}{XE:XEt}{X:Cx}{pos:Pos}
theorem hereB {ρ:List Addr}{H:Hp}{b:Bool}{s:S}{Q:Bool->Hp->Prop}(h:Out T XE rB ρ H (.ok b s) Q) (sr:SR T ρ s H):Q b H:=h ρ H b .refl sr rfl
def truth (v:AV)(s:S):Option Bool:=match v with
 | .non=>some false
 | .bl b=>some b
 | .int i=>some (i != 0)
 | .str x=>if x.length<=sizeLine then some ((x.length:Int) != 0) else none
 | .tup xs=>some (!xs.isEmpty)
 | .sq xs=>some (!xs.isEmpty)
 | .ref i=>match s[i]? with
  | some (.lst xs)=>some (!xs.isEmpty)
  | some (.dK xs)=>some (!xs.isEmpty)
  | _=>none
theorem VRs.emp {ρ:List Addr}{H:Hp}{l:List AV}{xs:List V}(h:VRs T ρ H l xs):l.isEmpty=xs.isEmpty:=by
 cases l with
 | nil=>cases h.nil_inv;rfl
 | cons a r=>obtain⟨x,ys,rfl,_⟩:=h.cons_inv;rfl
theorem truth_inv {ρ:List Addr}{H:Hp}{s:S}{v:AV}{b:Bool}{x:V}(h:truth v s=some b)(sr:SR T ρ s H)(va:VR T ρ H v x):TruV T.K x H b:=by
 cases v with
 | non=>cases va.non_inv;cases h;rfl
 | bl c=>cases va.bl_inv;cases h;rfl
 | int c=>cases va.int_inv;cases h;rfl
 | str c=>
  cases va.str_inv
  have h:(if c.length<=sizeLine then some ((c.length:Int) != 0) else none)=some b:=h
  split at h
  ·cases h;exact⟨by assumption,rfl⟩
  ·cases h
 | tup c=>
  obtain⟨a,vs,rfl,h1,k⟩:=va.tup_inv
  cases h
  exact .inr (.inl ⟨vs,h1,by rw[k.emp]⟩)
 | sq c=>
  obtain⟨a,vs,rfl,h1,k⟩:=va.sq_inv
  cases h
  exact .inl ⟨vs,h1.sqL,by rw[k.emp]⟩
 | ref i=>
  have h:(match s[i]? with
   | some (.lst xs)=>some (!xs.isEmpty)
   | some (.dK xs)=>some (!xs.isEmpty)
   | _=>none)=some b:=h
  split at h
  ·rename_i xs e
   cases h
   obtain⟨a,vs,rfl,_,h1,k⟩:=sr.lstAt e va
   exact .inl ⟨vs,SqL.of h1,by rw[k.emp]⟩
  ·rename_i xs e
   cases h
   obtain⟨a,vs,rfl,_,h1,k1,k⟩:=sr.dKAt e va
   refine .inr (.inr ⟨vs,h1,?_⟩)
   have:=congrArg List.length k1
   rw[List.length_map,List.length_map]at this
   cases xs<;>cases vs<;>first|rfl|(simp at this)
  ·cases h
def cT (m:Ev):Eb:=λ env s=>(m env s).bind λ v s1=>need (truth v s1) λ b=>.ok b s1
def cB (m:Ev):Eb:=λ env s=>(m env s).bind λ v s1=>match v with
 | .bl b=>.ok b s1
 | _=>.bad
theorem pt_t {e:Expr}{m:Ev}(hK:X.K=T.K)(h:PE X e (tE T XE m)) (he:∀ whole,isTrue e X.env whole=(do let v <-whole;standAt e.pos;holding [v] (truthy v)):=by intro _;rfl):PT X e (tC' T XE (cT m)):=
 PT.imp (pt_truth h he) λ σ H Q ⟨ρ,env,s,hs,he,ho⟩=>step hs he ho λ v s1 ρ1 H1 x _ u1 sr1 er1 vr1 ho1=>by
  obtain⟨b,e,ho1⟩:=ho1.needInv
  exact⟨b,by rw[hK];exact truth_inv e sr1 vr1,hereB ho1 sr1⟩
theorem tB_of {m:Ev}{σ:St}{H:Hp}{Q:Bool->Hp->Prop}(h:tC' T XE (cB m) σ H Q):tE T XE m σ H λ x H'=>∃ k,x=.bl k/\Q k H':=by
 obtain⟨ρ,env,s,hs,he,ho⟩:=h
 refine step hs he ho λ v s1 ρ1 H1 x _ u1 sr1 er1 vr1 ho1=>?_
 have vr1:VR T ρ1 H1 v x:=vr1
 cases v<;>try exact ho1.elim
 exact⟨_,vr1.bl_inv,hereB ho1 sr1⟩
theorem pt_cmp' {o:CmpOp}{op:AV->AV->S->R AV}{a b:Expr}{m1 m2:Ev}(hop:OpR X (compareOp o) (r2M T XE op)) (ha:PE X a (tE T XE m1)) (hb:PE X b (tE T XE m2)) (hm:behindInMarks o b=false:=by rfl):PT X (.Compare a [o] [b] pos) (tC' T XE (cB (mBin op m1 m2))):=
 PT.imp (pt_cmpR hop ha hb hm) λ σ H Q h=>t2 (tB_of h)
def mChain (op op':AV->AV->S->R AV)(a b c:Ev):Ev:=λ env s=>(a env s).bind λ v s1=>(b env s1).bind λ w s2=>(op v w s2).bind λ r s3=>match r with
 | .bl true=>(c env s3).bind λ z s4=>op' w z s4
 | .bl false=>.ok (.bl false) s3
 | _=>.bad
theorem t3 {op op':AV->AV->S->R AV}{a b c:Ev}{σ:St}{H:Hp}{Q:VK}(h:tE T XE (mChain op op' a b c) σ H Q):tChain (r2M T XE op) (r2M T XE op') (tE T XE a) (tE T XE b) (tE T XE c) σ H Q:=by
 obtain⟨ρ,env,s,hs,he,ho⟩:=h
 refine step hs he ho λ v s1 ρ1 H1 x _ u1 sr1 er1 vr1 ho1=>step sr1 er1 ho1 λ w s2 ρ2 H2 y _ u2 sr2 er2 vr2 ho2=>⟨ρ2,v,w,s2,sr2,VR.up u2 vr1,vr2,?_⟩
 cases e:op v w s2 with
 | bad=>rw[e]at ho2;exact ho2
 | ex c s3=>rw[e]at ho2;exact ho2
 | ok r s3=>
  rw[e]at ho2
  intro ρ3 H3 z u3 sr3 vr3
  have vr3:VR T ρ3 H3 r z:=vr3
  have ho2:=Out.up u3 ho2
  cases r<;>try exact ho2.elim
  rename_i k _ _
  refine⟨k,vr3.bl_inv,?_⟩
  cases k with
  | false=>rw[if_neg (by decide)];exact ho2.hereV sr3 vr_bl
  | true=>
   rw[if_pos rfl]
   exact step sr3 (er2.up u3) ho2 λ q s4 ρ4 H4 x4 _ u4 sr4 er4 vr4 ho4=>⟨ρ4,w,q,s4,sr4,VR.up (u3.trans u4) vr2,vr4,ho4⟩
theorem me_chain {o o':CmpOp}{op op':AV->AV->S->R AV}{a b c:Expr}{m1 m2 m3:Ev}(hop:OpR X (compareOp o) (r2M T XE op)) (hop':OpR X (compareOp o') (r2M T XE op')) (ha:PE X a (tE T XE m1)) (hb:PE X b (tE T XE m2)) (hc:PE X c (tE T XE m3))
  (hm:lastMarks [o,o'] [b,c]=false:=by with_unfolding_all rfl):PE X (.Compare a [o,o'] [b,c] pos) (tE T XE (mChain op op' m1 m2 m3)):=PE.imp (pe_chain hop hop' ha hb hc hm) λ _ _ _ h=>t3 h
theorem pt_chain' {o o':CmpOp}{op op':AV->AV->S->R AV}{a b c:Expr}{m1 m2 m3:Ev}(hop:OpR X (compareOp o) (r2M T XE op)) (hop':OpR X (compareOp o') (r2M T XE op')) (ha:PE X a (tE T XE m1)) (hb:PE X b (tE T XE m2)) (hc:PE X c (tE T XE m3))
  (hm:lastMarks [o,o'] [b,c]=false:=by with_unfolding_all rfl):PT X (.Compare a [o,o'] [b,c] pos) (tC' T XE (cB (mChain op op' m1 m2 m3))):=PT.imp (pt_chain hop hop' ha hb hc hm) λ σ H Q h=>t3 (tB_of h)
def cAnd (a b:Eb):Eb:=λ env s=>(a env s).bind λ c s1=>if c=true then b env s1 else .ok false s1
def cOr (a b:Eb):Eb:=λ env s=>(a env s).bind λ c s1=>if c=true then .ok true s1 else b env s1
def cNot (a:Eb):Eb:=λ env s=>(a env s).bind λ c s1=>.ok (!c) s1
def mIf (c:Eb)(a b:Ev):Ev:=λ env s=>(c env s).bind λ k s1=>if k=true then a env s1 else b env s1
theorem pw_or1' {a:Expr}{m:Eb}(h:PT X a (tC' T XE m)):PW X (.BoolOp .Or [a] pos) (tC' T XE m):=pw_or1 h
theorem pw_or' {a b:Expr}{rest:List Expr}{m r:Eb}(h:PT X a (tC' T XE m)) (k:PW X (.BoolOp .Or (b :: rest) pos) (tC' T XE r)):PW X (.BoolOp .Or (a :: b :: rest) pos) (tC' T XE (cOr m r)):=
 PW.imp (pw_or h k) λ σ H Q ⟨ρ,env,s,hs,he,ho⟩=>step hs he ho λ v s1 ρ1 H1 x _ u1 sr1 er1 vr1 ho1=>by
  cases (show v=x from vr1)
  cases v with
  | true=>exact hereB ho1 sr1
  | false=>exact⟨ρ1,env,s1,sr1,er1,ho1⟩
theorem pt_not' {a:Expr}{m:Eb}(h:PT X a (tC' T XE m)):PT X (.UnaryOp .Not a pos) (tC' T XE (cNot m)):=
 PT.imp (pt_not h) λ σ H Q ⟨ρ,env,s,hs,he,ho⟩=>step hs he ho λ v s1 ρ1 H1 x _ u1 sr1 er1 vr1 ho1=>by
  cases (show v=x from vr1)
  exact hereB ho1 sr1
theorem me_if {c a b:Expr}{mc':Eb}{ma mb:Ev}(hc:PT X c (tC' T XE mc')) (ha:PE X a (tE T XE ma)) (hb:PE X b (tE T XE mb)):PE X (.IfExp c a b pos) (tE T XE (mIf mc' ma mb)):=
 PE.imp (pe_ifExp hc ha hb) λ σ H Q ⟨ρ,env,s,hs,he,ho⟩=>step hs he ho λ v s1 ρ1 H1 x _ u1 sr1 er1 vr1 ho1=>by
  cases (show v=x from vr1)
  cases v with
  | true=>exact⟨ρ1,env,s1,sr1,er1,ho1⟩
  | false=>exact⟨ρ1,env,s1,sr1,er1,ho1⟩
def mAnd (a b:Ev):Ev:=λ env s=>(a env s).bind λ v s1=>match v with
 | .bl true=>b env s1
 | .bl false=>.ok (.bl false) s1
 | _=>.bad
def mOr (a b:Ev):Ev:=λ env s=>(a env s).bind λ v s1=>match v with
 | .bl true=>.ok (.bl true) s1
 | .bl false=>b env s1
 | _=>.bad
def opNot:AV->S->R AV
 | .bl b,s=>.ok (.bl (!b)) s
 | _,_=>.bad
theorem me_one {op:BoolOp}{a:Expr}{m:Ev}(h:PE X a (tE T XE m)):PE X (.BoolOp op [a] pos) (tE T XE m):=pe_one h
theorem me_and {a b:Expr}{rest:List Expr}{m r:Ev}(h:PE X a (tE T XE m)) (k:PE X (.BoolOp .And (b :: rest) pos) (tE T XE r)):PE X (.BoolOp .And (a :: b :: rest) pos) (tE T XE (mAnd m r)):=
 PE.imp (pe_and h k) λ σ H Q ⟨ρ,env,s,hs,he,ho⟩=>step hs he ho λ v s1 ρ1 H1 x _ u1 sr1 er1 vr1 ho1=>by
  have vr1:VR T ρ1 H1 v x:=vr1
  cases v<;>try exact ho1.elim
  rename_i b _ _
  refine⟨b,vr1.bl_inv,?_⟩
  cases b with
  | true=>exact⟨ρ1,env,s1,sr1,er1,ho1⟩
  | false=>exact ho1.hereV sr1 vr_bl
theorem me_or {a b:Expr}{rest:List Expr}{m r:Ev}(h:PE X a (tE T XE m)) (k:PE X (.BoolOp .Or (b :: rest) pos) (tE T XE r)):PE X (.BoolOp .Or (a :: b :: rest) pos) (tE T XE (mOr m r)):=
 PE.imp (pe_or h k) λ σ H Q ⟨ρ,env,s,hs,he,ho⟩=>step hs he ho λ v s1 ρ1 H1 x _ u1 sr1 er1 vr1 ho1=>by
  have vr1:VR T ρ1 H1 v x:=vr1
  cases v<;>try exact ho1.elim
  rename_i b _ _
  refine⟨b,vr1.bl_inv,?_⟩
  cases b with
  | true=>exact ho1.hereV sr1 vr_bl
  | false=>exact⟨ρ1,env,s1,sr1,er1,ho1⟩
theorem me_not {a:Expr}{m:Ev}(h:PE X a (tE T XE m)):PE X (.UnaryOp .Not a pos) (tE T XE (mUn opNot m)):=
 PE.imp (pe_not h) λ σ H Q ⟨ρ,env,s,hs,he,ho⟩=>step hs he ho λ v s1 ρ1 H1 x _ u1 sr1 er1 vr1 ho1=>by
  have vr1:VR T ρ1 H1 v x:=vr1
  cases v<;>try exact ho1.elim
  exact⟨_,vr1.bl_inv,ho1.hereV sr1 vr_bl⟩
theorem VRs.atI {ρ:List Addr}{H:Hp}{l:List AV}{xs:List V}{i:Int}{v:AV}(h:VRs T ρ H l xs)(e:atI l i=some v):∃ x,L2.atI xs i=some x/\VR T ρ H v x:=by
 unfold L2.atI at *
 rw[<-h.length]
 cases e1:ixN l.length i with
 | none=>rw[e1]at e;cases e
 | some j=>rw[e1]at e;exact h.get e
def opIx:AV->AV->S->R AV
 | .tup xs,.int i,s=>need (atI xs i) λ v=>.ok v s
 | .sq xs,.int i,s=>need (atI xs i) λ v=>.ok v s
 | .ref k,.int i,s=>need (lstO s k) λ xs=>need (atI xs i) λ v=>.ok v s
 | .str z,.int i,s=>if z.length<=sizeLine then need (atI z.cps.toList i) λ c=>.ok (.str ⟨#[c]⟩) s else .bad
 | _,_,_=>.bad
theorem oIx (hK:X.K=T.K):IxR X (r2M T XE opIx):=by
 intro value slice pins s σ H x y v u Q I rx ry ⟨ρ,a,b,st,sr,va,vb,ho⟩ hs
 cases a<;>cases b<;>try exact ho.elim
 ·obtain⟨hl,ho⟩:=ho.ifInv
  obtain⟨c,e,ho⟩:=ho.needInv
  exact ix_str value slice pins s σ H x y v u Q I rx ry ⟨_,_,c,va.str_inv,vb.int_inv,hl,e,ho.hereV sr vr_str⟩ hs
 ·obtain⟨c,e,ho⟩:=ho.needInv
  obtain⟨p,vs,rfl,h1,k⟩:=va.tup_inv
  obtain⟨z,e2,k2⟩:=k.atI e
  exact ix_tup value slice pins s σ H _ y v u Q I rx ry ⟨p,vs,_,z,rfl,vb.int_inv,hK ▸ h1,e2,ho.hereV sr k2⟩ hs
 ·obtain⟨xs,e0,ho⟩:=ho.needInv
  obtain⟨c,e,ho⟩:=ho.needInv
  obtain⟨p,vs,rfl,_,h1,k⟩:=sr.lstAt (lstO_inv e0) va
  obtain⟨z,e2,k2⟩:=k.atI e
  exact ix_list value slice pins s σ H _ y v u Q I rx ry ⟨p,vs,_,z,rfl,vb.int_inv,SqL.of h1,e2,ho.hereV sr k2⟩ hs
 ·obtain⟨c,e,ho⟩:=ho.needInv
  obtain⟨p,vs,rfl,h1,k⟩:=va.sq_inv
  obtain⟨z,e2,k2⟩:=k.atI e
  exact ix_list value slice pins s σ H _ y v u Q I rx ry ⟨p,vs,_,z,rfl,vb.int_inv,hK ▸ h1.sqL,e2,ho.hereV sr k2⟩ hs
abbrev Eo:=En->S->R (Option Int)
def rO:Rl (Option Int) (Option Int):=⟨λ _ _ _ a b=>a=b,λ _ h=>h⟩
abbrev tO (T:Tx)(XE:XEt)(m:Eo):TO:=tG T XE rO m
def oN:Eo:=λ _ s=>.ok none s
def oS (m:Ev):Eo:=λ env s=>(m env s).bind λ v s1=>match v with
 | .int i=>.ok (some i) s1
 | _=>.bad
theorem PO.imp {e:Option Expr}{t t':TO}(h:PO X e t)(k:∀ σ H Q,t' σ H Q->t σ H Q):PO X e t':=λ pins s σ H Q I hq=>h pins s σ H Q I (k σ H Q hq)
theorem po_none':PO X none (tO T XE oN):=PO.imp po_none λ σ H Q ⟨ρ,env,s,hs,he,ho⟩=>ho ρ H none .refl hs rfl
theorem po_some' {e:Expr}{m:Ev}(h:PE X e (tE T XE m)):PO X (some e) (tO T XE (oS m)):=
 PO.imp (po_some h) λ σ H Q ⟨ρ,env,s,hs,he,ho⟩=>step hs he ho λ v s1 ρ1 H1 x _ u1 sr1 er1 vr1 ho1=>by
  have vr1:VR T ρ1 H1 v x:=vr1
  cases v<;>try exact ho1.elim
  exact⟨_,vr1.int_inv,ho1 ρ1 H1 (some _) .refl sr1 rfl⟩
def cutA {α:Type}(xs:List α)(lo hi:Option Int):List α:=(xs.drop (HT.sIx xs.length 0 lo)).take (HT.sIx xs.length xs.length hi - HT.sIx xs.length 0 lo)
theorem VRs.cutA {ρ:List Addr}{H:Hp}{l:List AV}{xs:List V}(h:VRs T ρ H l xs)(lo hi:Option Int):VRs T ρ H (cutA l lo hi) (cutV xs lo hi):=by
 unfold Mm.cutA cutV
 rw[h.length]
 exact(h.drop _).take _
def opSl (v:AV)(lo hi:Option Int)(s:S):R AV:=match v with
 | .tup xs=>.ok (.tup (cutA xs lo hi)) s
 | .ref i=>need (lstO s i) λ xs=>.ok (.ref s.length) (s++[.lst (cutA xs lo hi)])
 | .sq xs=>.ok (.ref s.length) (s++[.lst (cutA xs lo hi)])
 | _=>.bad
def rSM (T:Tx)(XE:XEt):V->Option Int->Option Int->Hp->VK->Prop:=λ x lo hi H Q=>∃ ρ v s,SR T ρ s H/\VR T ρ H v x/\Out T XE (rV T) ρ H (opSl v lo hi s) Q
theorem cut_all {xs:List V}{lo hi:Option Int}(h:HT.sIx xs.length 0 lo=0/\HT.sIx xs.length xs.length hi=xs.length):cutV xs lo hi=xs:=by
 unfold cutV
 rw[h.1,h.2,Nat.sub_zero,List.drop_zero,List.take_length]
theorem oSl (hK:X.K=T.K):SlR X (rSM T XE):=by
 intro pins s σ H x v vl vu lo hi sl Q I rx hs pl pu ⟨ρ,a,st,sr,va,ho⟩
 cases a<;>try exact ho.elim
 ·obtain⟨p,vs,rfl,h1,k⟩:=va.tup_inv
  refine sl_tup2 pins s σ H _ v vl vu lo hi sl Q I rx hs pl pu ⟨p,vs,rfl,hK ▸ h1,λ hw=>?_,λ _ q hq=>ho.tup sr hq (k.cutA lo hi)⟩
  have:=k.cutA lo hi
  rw[cut_all hw]at this
  exact ho.hereV sr (vr_tup h1 this)
 ·obtain⟨xs,e0,ho⟩:=ho.needInv
  obtain⟨p,vs,rfl,_,h1,k⟩:=sr.lstAt (lstO_inv e0) va
  exact sl_list pins s σ H _ v vl vu lo hi sl Q I rx hs pl pu ⟨p,vs,rfl,SqL.of h1,λ q hq=>ho.alloc sr hq (OR.lst upd_same (VRs.gr ((sr.upNew hq).add hq).toGr (k.cutA lo hi)))⟩
 ·obtain⟨p,vs,rfl,h1,k⟩:=va.sq_inv
  exact sl_list pins s σ H _ v vl vu lo hi sl Q I rx hs pl pu ⟨p,vs,rfl,hK ▸ h1.sqL,λ q hq=>ho.alloc sr hq (OR.lst upd_same (VRs.gr ((sr.upNew hq).add hq).toGr (k.cutA lo hi)))⟩
def mSl (m:Ev)(lo hi:Eo):Ev:=λ env s=>(m env s).bind λ v s1=>(lo env s1).bind λ l s2=>(hi env s2).bind λ h s3=>opSl v l h s3
theorem me_sl {e:Expr}{lo hi:Option Expr}{p2:Pos}{m:Ev}{ml mh:Eo}(hK:X.K=T.K)(he:PE X e (tE T XE m)) (hl:PO X lo (tO T XE ml)) (hh:PO X hi (tO T XE mh)):PE X (.Subscript e (.Slice lo hi none p2) pos) (tE T XE (mSl m ml mh)):=
 PE.imp (pe_slice (oSl (XE:=XE) hK) he hl hh) λ σ H Q ⟨ρ,env,s,hs,he,ho⟩=>
  step hs he ho λ v s1 ρ1 H1 x _ u1 sr1 er1 vr1 ho1=>step sr1 er1 ho1 λ l s2 ρ2 H2 l' _ u2 sr2 er2 e2 ho2=>step sr2 er2 ho2 λ h s3 ρ3 H3 h' _ u3 sr3 er3 e3 ho3=>by
   cases (show l=l' from e2)
   cases (show h=h' from e3)
   exact⟨ρ3,v,s3,sr3,VR.up (u2.trans u3) vr1,ho3⟩
end
end Mm
namespace Mm
open PySem L2
abbrev Ms:=En->S->RS
def R.bindS {α:Type}:R α->(α->S->RS)->RS
 | .ok a s,f=>f a s
 | .ex c s,_=>.ex c s
 | .bad,_=>.bad
@[simp] theorem bindS_ok {α:Type}(a:α) (s:S) (f:α->S->RS):(R.ok a s).bindS f=f a s:=rfl
def OutS (T:Tx)(XE:XEt)(ρ:List Addr)(H:Hp):RS->Ends->Prop
 | .nx e s,D=>∀ ρ' H' σ',Up ρ H ρ' H'->SR T ρ' s H'->ER T ρ' H' e σ'->D.nx σ' H'
 | .rt v s,D=>∀ ρ' H' x,Up ρ H ρ' H'->SR T ρ' s H'->VR T ρ' H' v x->D.rt x H'
 | .bk e s,D=>∀ ρ' H' σ',Up ρ H ρ' H'->SR T ρ' s H'->ER T ρ' H' e σ'->D.bk σ' H'
 | .ct e s,D=>∀ ρ' H' σ',Up ρ H ρ' H'->SR T ρ' s H'->ER T ρ' H' e σ'->D.ct σ' H'
 | .ex c s,_=>∀ ρ' H',Up ρ H ρ' H'->SR T ρ' s H'->XE c ρ' s H'
 | .bad,_=>False
theorem OutS.up {T:Tx}{XE:XEt}{ρ ρ':List Addr}{H H':Hp}{r:RS}{D:Ends}(u:Up ρ H ρ' H')(h:OutS T XE ρ H r D):OutS T XE ρ' H' r D:=by
 cases r with
 | nx e s=>exact λ ρ2 H2 x u2 sr vr=>h ρ2 H2 x (u.trans u2) sr vr
 | rt e s=>exact λ ρ2 H2 x u2 sr vr=>h ρ2 H2 x (u.trans u2) sr vr
 | bk e s=>exact λ ρ2 H2 x u2 sr vr=>h ρ2 H2 x (u.trans u2) sr vr
 | ct e s=>exact λ ρ2 H2 x u2 sr vr=>h ρ2 H2 x (u.trans u2) sr vr
 | ex c s=>exact λ ρ2 H2 u2 sr=>h ρ2 H2 (u.trans u2) sr
 | bad=>exact h
def tS (T:Tx)(XE:XEt)(m:Ms):TS:=λ D σ H=>∃ ρ env s,SR T ρ s H/\ER T ρ H env σ/\OutS T XE ρ H (m env s) D
section
variable {T:Tx}{XE:XEt}{X:Cx}{pos:Pos}
theorem stepS {α β:Type}{rl:Rl α β}{ρ:List Addr}{env:En}{s:S}{σ:St}{H:Hp}{m:En->S->R α}{k:α->S->RS}{D:Ends}{F:β->Hp->Prop}
  (hs:SR T ρ s H) (he:ER T ρ H env σ) (ho:OutS T XE ρ H ((m env s).bindS k) D)
  (hk:∀ v s1 ρ1 H1 x,m env s=.ok v s1->Up ρ H ρ1 H1->SR T ρ1 s1 H1->ER T ρ1 H1 env σ->rl.r H ρ1 H1 v x->OutS T XE ρ1 H1 (k v s1) D->F x H1):tG T XE rl m σ H F:=by
 refine⟨ρ,env,s,hs,he,?_⟩
 cases e:m env s with
 | ok v s1=>
  rw[e]at ho
  exact λ ρ1 H1 x u sr vr=>hk v s1 ρ1 H1 x e u sr (he.up u) vr (OutS.up u ho)
 | ex c s1=>rw[e]at ho;exact ho
 | bad=>rw[e]at ho;exact ho
def sSkip:Ms:=λ env s=>.nx env s
def sSeq (a b:Ms):Ms:=λ env s=>match a env s with
 | .nx e s1=>b e s1
 | r=>r
theorem mss_nil:PSs X [] (tS T XE sSkip):=PSs.imp pss_nil λ D σ H ⟨ρ,env,s,hs,he,ho⟩=>ho ρ H σ .refl hs he
theorem mss_cons {st:Stmt}{rest:List Stmt}{a b:Ms}(h1:PS X st (tS T XE a)) (h2:PSs X rest (tS T XE b)):PSs X (st :: rest) (tS T XE (sSeq a b)):=
 PSs.imp (pss_cons h1 h2) λ D σ H ⟨ρ,env,s,hs,he,ho⟩=>by
  refine⟨ρ,env,s,hs,he,?_⟩
  unfold sSeq at ho
  cases e:a env s with
  | nx e1 s1=>rw[e]at ho;exact λ ρ2 H2 x u sr er=>⟨ρ2,e1,s1,sr,er,OutS.up u ho⟩
  | rt v s1=>rw[e]at ho;exact ho
  | bk v s1=>rw[e]at ho;exact ho
  | ct v s1=>rw[e]at ho;exact ho
  | ex v s1=>rw[e]at ho;exact ho
  | bad=>rw[e]at ho;exact ho
theorem mss_one {st:Stmt}{a:Ms}(h1:PS X st (tS T XE a)):PSs X [st] (tS T XE a):=pss_one h1
def sExpr (m:Ev):Ms:=λ env s=>(m env s).bindS λ _ s1=>.nx env s1
def sRet (m:Ev):Ms:=λ env s=>(m env s).bindS λ v s1=>.rt v s1
theorem ms_ret {e:Expr}{m:Ev}(h:PE X e (tE T XE m)):PS X (.Return (some e) pos) (tS T XE (sRet m)):=
 PS.imp (ps_ret h) λ D σ H ⟨ρ,env,s,hs,he,ho⟩=>stepS hs he ho λ v s1 ρ1 H1 x _ u1 sr1 er1 vr1 ho1=>ho1 ρ1 H1 x .refl sr1 vr1
def sIf (c:Eb)(a b:Ms):Ms:=λ env s=>(c env s).bindS λ k s1=>if k=true then a env s1 else b env s1
theorem ms_if {c:Expr}{a b:List Stmt}{mc':Eb}{ma mb:Ms}(hc:PT X c (tC' T XE mc')) (ha:PSs X a (tS T XE ma)) (hb:PSs X b (tS T XE mb)):PS X (.If c a b pos) (tS T XE (sIf mc' ma mb)):=
 PS.imp (ps_if hc ha hb) λ D σ H ⟨ρ,env,s,hs,he,ho⟩=>stepS hs he ho λ v s1 ρ1 H1 x _ u1 sr1 er1 vr1 ho1=>by
  cases (show v=x from vr1)
  cases v with
  | true=>exact⟨ρ1,env,s1,sr1,er1,ho1⟩
  | false=>exact⟨ρ1,env,s1,sr1,er1,ho1⟩
def sSet (i:Nat)(m:Ev):Ms:=λ env s=>(m env s).bindS λ v s1=>.nx (env.set i (some v)) s1
theorem asg_of {i:Nat}{m:Ev}{D:Ends}{σ:St}{H:Hp}(h:tS T XE (sSet i m) D σ H):tAsg (tE T XE m) (gName i) D σ H:=by
 obtain⟨ρ,env,s,hs,he,ho⟩:=h
 exact stepS hs he ho λ v s1 ρ1 H1 x _ u1 sr1 er1 vr1 ho1=>ho1 ρ1 H1 _ .refl sr1 (er1.set vr1)
theorem ms_set {i:Nat}{x:Str}{e:Expr}{m:Ev}{pos':Pos}(hN:X.N.Nodup)(he:PE X e (tE T XE m)) (hi:X.N[i]? = some x:=by rfl)(hx:Loc X.env.scope x:=by first|exact Or.inl rfl|exact Or.inr rfl)(hs:swapsWith e (some (.Name x pos')) pos.line X.env=pure false:=by rfl) (hf:X.fn x=true∨X.env.scope.names.lookup x=some .local:=by first|exact .inl rfl|exact .inr rfl|assumption) :
  PS X (.Assign [.Name x pos'] e pos) (tS T XE (sSet i m)):=PS.imp (ps_set hN hi hx he hs hf) λ D σ H h=>asg_of h
abbrev Mt:=AV->En->S->RS
abbrev Mts:=List AV->En->S->RS
def endQ (Q:St->Hp->Prop):Ends:={ nx:=Q,rt:=λ _ _=>False }
def tT (T:Tx)(XE:XEt)(m:Mt):TG:=λ x σ H Q=>∃ ρ env s v,SR T ρ s H/\ER T ρ H env σ/\VR T ρ H v x/\OutS T XE ρ H (m v env s) (endQ Q)
def tTs (T:Tx)(XE:XEt)(m:Mts):TGs:=λ xs σ H Q=>∃ ρ env s vs,SR T ρ s H/\ER T ρ H env σ/\VRs T ρ H vs xs/\OutS T XE ρ H (m vs env s) (endQ Q)
def gN (i:Nat):Mt:=λ v env s=>.nx (env.set i (some v)) s
def gNil':Mts:=λ vs env s=>match vs with
 | []=>.nx env s
 | _=>.bad
def gCons' (a:Mt)(r:Mts):Mts:=λ vs env s=>match vs with
 | v :: w=>match a v env s with
  | .nx e s1=>r w e s1
  | q=>q
 | _=>.bad
def gT (n:Nat)(r:Mts):Mt:=λ v env s=>match v with
 | .tup vs=>if vs.length=n then r vs env s else .bad
 | _=>.bad
theorem mg_name {i:Nat}{x:Str}(hN:X.N.Nodup)(hi:X.N[i]? = some x:=by rfl)(hx:Loc X.env.scope x:=by first|exact Or.inl rfl|exact Or.inr rfl)(hf:X.fn x=true∨X.env.scope.names.lookup x=some .local:=by first|exact .inl rfl|exact .inr rfl|assumption):PG X (.Name x pos) (tT T XE (gN i)):=
 PG.imp (pg_name hN hi hx hf) λ x σ H Q ⟨ρ,env,s,v,hs,he,vr,ho⟩=>ho ρ H _ .refl hs (he.set vr)
theorem mgs_nil:PGs X [] (tTs T XE gNil'):=PGs.imp pgs_nil λ xs σ H Q ⟨ρ,env,s,vs,hs,he,vr,ho⟩=>by
 cases vs with
 | nil=>exact⟨vr.nil_inv,ho ρ H _ .refl hs he⟩
 | cons a r=>exact ho.elim
theorem mgs_cons {e:Expr}{es:List Expr}{a:Mt}{r:Mts}(h1:PG X e (tT T XE a)) (h2:PGs X es (tTs T XE r)) (hs:(assignEach (e :: es) X.env).map (·.2)=assign e X.env :: (assignEach es X.env).map (·.2):=by rfl):PGs X (e :: es) (tTs T XE (gCons' a r)):=
 PGs.imp (pgs_cons h1 h2 hs) λ xs σ H Q ⟨ρ,env,s,vs,hs,he,vr,ho⟩=>by
  cases vs with
  | nil=>exact ho.elim
  | cons v w=>
   obtain⟨x,ys,rfl,k1,k2⟩:=vr.cons_inv
   refine⟨x,ys,rfl,ρ,env,s,v,hs,he,k1,?_⟩
   unfold gCons' at ho
   cases e:a v env s with
   | nx e1 s1=>simp only[e]at ho;exact λ ρ2 H2 x u sr er=>⟨ρ2,e1,s1,w,sr,er,k2.up u,OutS.up u ho⟩
   | rt v s1=>simp only[e]at ho;exact ho
   | bk v s1=>simp only[e]at ho;exact λ ρ2 H2 x u sr er=>ho ρ2 H2 x u sr er
   | ct v s1=>simp only[e]at ho;exact λ ρ2 H2 x u sr er=>ho ρ2 H2 x u sr er
   | ex v s1=>simp only[e]at ho;exact ho
   | bad=>simp only[e]at ho;exact ho
theorem mg_tup {es:List Expr}{k:Nat}{r:Mts}{n:Nat}(hK:X.K=T.K)(hc:X.calm=true)(h:PGs X es (tTs T XE r)) (hn:(assignEach es X.env).length=n:=by rfl) (hst:(assignEach es X.env).findIdx? (·.1)=none:=by rfl):PG X (.Tuple es k pos) (tT T XE (gT n r)):=
 PG.imp (pg_tup hc h hn hst) λ x σ H Q ⟨ρ,env,s,v,hs,he,vr,ho⟩=>by
  obtain⟨vs,rfl⟩:∃ vs,v=.tup vs:=by
   cases v with
   | tup vs=>exact⟨vs,rfl⟩
   | _=>exact ho.elim
  obtain⟨a,ws,rfl,h1,k1⟩:=vr.tup_inv
  have ho:OutS T XE ρ H (if vs.length=n then r vs env s else .bad) (endQ Q):=ho
  by_cases hl:vs.length=n
  ·rw[if_pos hl]at ho
   exact⟨a,ws,rfl,hK ▸ h1,by rw[<-k1.length];exact hl,ρ,env,s,vs,hs,he,k1,ho⟩
  ·rw[if_neg hl]at ho;exact ho.elim
def sAsg (m:Ev)(g:Mt):Ms:=λ env s=>(m env s).bindS λ v s1=>g v env s1
def GoesOn (g:Mt):Prop:=∀ v env s,(∃ e s1,g v env s=.nx e s1)∨(∃ c s1,g v env s=.ex c s1)∨g v env s=.bad
def GoesOns (g:Mts):Prop:=∀ v env s,(∃ e s1,g v env s=.nx e s1)∨(∃ c s1,g v env s=.ex c s1)∨g v env s=.bad
theorem on_name {i:Nat}:GoesOn (gN i):=λ v env s=>.inl ⟨_,_,rfl⟩
theorem on_nil:GoesOns gNil':=λ v env s=>by
 cases v with
 | nil=>exact .inl ⟨_,_,rfl⟩
 | cons a r=>exact .inr (.inr rfl)
theorem on_cons {a:Mt}{r:Mts}(h:GoesOn a)(k:GoesOns r):GoesOns (gCons' a r):=λ v env s=>by
 cases v with
 | nil=>exact .inr (.inr rfl)
 | cons x w=>
  rcases h x env s with⟨e,s1,q⟩|⟨e,s1,q⟩|q
  ·have:gCons' a r (x :: w) env s=r w e s1:=by unfold gCons';simp only[q]
   rw[this];exact k w e s1
  ·have:gCons' a r (x :: w) env s=.ex e s1:=by unfold gCons';simp only[q]
   exact .inr (.inl ⟨_,_,this⟩)
  ·have:gCons' a r (x :: w) env s=.bad:=by unfold gCons';simp only[q]
   exact .inr (.inr this)
theorem on_tup {n:Nat}{r:Mts}(k:GoesOns r):GoesOn (gT n r):=λ v env s=>by
 cases v<;>try exact .inr (.inr rfl)
 rename_i vs
 by_cases hl:vs.length=n
 ·have:gT n r (.tup vs) env s=r vs env s:=if_pos hl
  rw[this];exact k vs env s
 ·have:gT n r (.tup vs) env s=.bad:=if_neg hl
  exact .inr (.inr this)
theorem GoesOn.out {g:Mt}(k:GoesOn g){ρ:List Addr}{H:Hp}{v:AV}{env:En}{s:S}{D:Ends}(h:OutS T XE ρ H (g v env s) D):OutS T XE ρ H (g v env s) (endQ D.nx):=by
 rcases k v env s with⟨e,s1,q⟩|⟨e,s1,q⟩|q<;>rw[q]at h ⊢<;>exact h
theorem ms_asg {tg e:Expr}{m:Ev}{g:Mt}(he:PE X e (tE T XE m)) (hg:PG X tg (tT T XE g)) (hon:GoesOn g)(hs:swapsWithSole [tg] e pos.line X.env=pure false:=by rfl)(hw:swappedStores [tg] e X.env=pure none:=by rfl)
  (h1:(assignEach [tg] X.env).map (·.2)=[assign tg X.env]:=by rfl):PS X (.Assign [tg] e pos) (tS T XE (sAsg m g)):=
 PS.imp (ps_asg he hg hs hw h1) λ D σ H ⟨ρ,env,s,hs,he,ho⟩=>stepS hs he ho λ v s1 ρ1 H1 x _ u1 sr1 er1 vr1 ho1=>⟨ρ1,env,s1,v,sr1,er1,vr1,hon.out ho1⟩
def sPar (i j:Nat)(r:Evs):Ms:=λ env s=>(r env s).bindS λ vs s1=>match vs with
 | [v,w]=>.nx ((env.set i (some v)).set j (some w)) s1
 | _=>.bad
theorem ms_par {i j:Nat}{x y:Str}{a b:Expr}{r:Evs}{px py pt:Pos}{kt k2:Nat}{pt2:Pos}(hc:X.calm=true)(hN:X.N.Nodup)(ha:PA X [a,b] (tP T XE r)) (hi:X.N[i]? = some x:=by rfl)(hj:X.N[j]? = some y:=by rfl)(hij:i≠j:=by decide)
  (hx:X.env.scope.names.lookup x=some .local:=by rfl) (hy:X.env.scope.names.lookup y=some .local:=by rfl)
  (hw:swappedStores [.Tuple [.Name x px,.Name y py] kt pt] (.Tuple [a,b] k2 pt2) X.env=pure (some [x,y]):=by rfl)
  (hs:swapsWithSole [.Tuple [.Name x px,.Name y py] kt pt] (.Tuple [a,b] k2 pt2) pos.line X.env=pure false:=by rfl) :
  PS X (.Assign [.Tuple [.Name x px,.Name y py] kt pt] (.Tuple [a,b] k2 pt2) pos) (tS T XE (sPar i j r)):=
 PS.imp (ps_par hc hN hi hj hij hx hy ha hw hs) λ D σ H ⟨ρ,env,s,hs,he,ho⟩=>stepS hs he ho λ v s1 ρ1 H1 x _ u1 sr1 er1 vr1 ho1=>by
  have vr1:VRs T ρ1 H1 v x:=vr1
  match v,vr1,ho1 with
  | [v,w],vr1,ho1=>
   obtain⟨x1,ys,rfl,k1,k2⟩:=vr1.cons_inv
   obtain⟨x2,ys,rfl,k4,k3⟩:=k2.cons_inv
   cases k3.nil_inv
   exact⟨x1,x2,rfl,ho1 ρ1 H1 _ .refl sr1 ((er1.set k1).set k4)⟩
  | [],_,ho1=>exact ho1.elim
  | [_],_,ho1=>exact ho1.elim
  | _ :: _ :: _ :: _,_,ho1=>exact ho1.elim
def whl (c:Eb)(b:Ms):Nat->En->S->RS
 | 0,_,_=>.bad
 | n+1,env,s=>(c env s).bindS λ k s1=>if k=true then (match b env s1 with
   | .nx e s2=>whl c b n e s2
   | .ct e s2=>whl c b n e s2
   | .bk e s2=>.nx e s2
   | r=>r) else .nx env s1
def sWhl (f:En->S->Nat)(c:Eb)(b:Ms):Ms:=λ env s=>whl c b (f env s) env s
theorem ms_whl {c:Expr}{body:List Stmt}{mc':Eb}{mb:Ms}(f:En->S->Nat)(hp:PassesOwn (model X.prog X.w) X.A X.env X.xe) (hc:PT X c (tC' T XE mc')) (hb:PSs X body (tS T XE mb)):PS X (.While c body [] pos) (tS T XE (sWhl f mc' mb)):=
 PS.imp (ps_while hp hc hb) λ D σ H ⟨ρ,env,s,hs,he,ho⟩=>by
  refine⟨λ n σ H=>∃ ρ env s,SR T ρ s H/\ER T ρ H env σ/\OutS T XE ρ H (whl mc' mb n env s) D,⟨f env s,ρ,env,s,hs,he,ho⟩,?_⟩
  rintro n σ H ⟨ρ,env,s,hs,he,ho⟩
  cases n with
  | zero=>exact ho.elim
  | succ n=>
   unfold whl at ho
   refine stepS hs he ho λ v s1 ρ1 H1 x _ u1 sr1 er1 vr1 ho1=>?_
   cases (show v=x from vr1)
   cases v with
   | false=>exact ho1 ρ1 H1 σ .refl sr1 er1
   | true=>
    refine⟨λ σ' H'=>∃ ρ env s,SR T ρ s H'/\ER T ρ H' env σ'/\OutS T XE ρ H' (whl mc' mb n env s) D,λ σ' H' h=>⟨n,Nat.lt_succ_self n,h⟩,ρ1,env,s1,sr1,er1,?_⟩
    simp only[if_pos]at ho1
    cases e:mb env s1 with
    | nx e2 s2=>simp only[e]at ho1;exact λ ρ2 H2 x u sr er=>⟨ρ2,e2,s2,sr,er,OutS.up u ho1⟩
    | ct e2 s2=>simp only[e]at ho1;exact λ ρ2 H2 x u sr er=>⟨ρ2,e2,s2,sr,er,OutS.up u ho1⟩
    | bk e2 s2=>simp only[e]at ho1;exact λ ρ2 H2 x u sr er=>ho1 ρ2 H2 x u sr er
    | rt v s2=>simp only[e]at ho1;exact ho1
    | ex v s2=>simp only[e]at ho1;exact ho1
    | bad=>simp only[e]at ho1;exact ho1
end
end Mm
namespace L2
open PySem PySem.Spec PyProof.Rows
theorem pi_seq {X:Cx}{tg l:Expr}{tl:TE}(hl:PE X l tl):PI X tg l (λ σ H R=>tl σ H λ x H1=>∃ a,x=.ref a/\(((∃ xs,SqL X.K H1 a xs)/\R (Itl X.K a) H1)∨((∃ xs,SqT X.K H1 a xs)/\R (Itt X.K a) H1))):=by
 intro pins s σ H R I h
 refine thn (hl pins s σ H _ I h) λ v s1 ⟨x,H1,I1,r1,q1⟩=>?_
 obtain⟨a,e,q⟩:=q1
 subst e
 cases r1
 rcases q with⟨⟨xs,hq⟩,q⟩|⟨⟨xs,hq⟩,q⟩
 ·obtain⟨its,rv,p,hz⟩:=I1.list hq
  refine wpAny_pyIter_list p.isList ?_
  refine⟨s1.heap.objs.size,[s1.heap.objs.size],_,_,H1,rfl,I1.kept (t':=s1.toks) λ b o e=>Heap.get?_push_of_some _ e,turn_list a _,⟨_,Heap.get?_push_size _ rfl,rfl,rfl⟩,λ b hb=>?_,q⟩
  have e:b=s1.heap.objs.size:=by simpa using hb
  subst e
  exact I1.fpOk (Nat.le_refl _) (I1.hok.fresh (Nat.le_refl _))
 ·obtain⟨its,rv,p,hz⟩:=I1.tuple hq
  refine wpAny_pyIter_tuple (show s1.heap.IsTuple a its.toArray from p) ?_
  refine⟨s1.heap.objs.size,[s1.heap.objs.size],_,_,H1,rfl,I1.kept (t':=s1.toks) λ b o e=>Heap.get?_push_of_some _ e,turn_tuple a _,⟨_,Heap.get?_push_size _ rfl,rfl,rfl⟩,λ b hb=>?_,q⟩
  have e:b=s1.heap.objs.size:=by simpa using hb
  subst e
  exact I1.fpOk (Nat.le_refl _) (I1.hok.fresh (Nat.le_refl _))
end L2
namespace Mm
open PySem L2
theorem Up.mod {ρ ρ':List Addr}{H H':Hp}{D:Addr}{o:HO}(u:Up ρ H ρ' H')(h:H D=none)(n:D∉ρ'):Up ρ H ρ' (upd H' D o):=
 ⟨⟨u.pre,λ b xs e=>by rw[upd_ne (ne_of_none e h)];exact u.tups b xs e,λ b p v e=>by rw[upd_ne (ne_of_none e h)];exact u.frzs b p v e⟩,λ b p e k=>⟨by rw[upd_ne (ne_of_none e h)];exact(u.fr b p e k).1,(u.fr b p e k).2⟩,λ b e=>by
  by_cases hb:b=D
  ·rw[hb];exact h
  ·rw[upd_ne hb]at e;exact u.live b e⟩
theorem grAt {ρ:List Addr}{H:Hp}{D:Addr}{xs:List V}{o:HO}(h:H D=some (.lst xs)):Gr ρ H ρ (upd H D o):=
 ⟨List.prefix_rfl,λ b ys e=>by rw[upd_ne (ne_of e h (by intro z;cases z))];exact e,λ b p v e=>by rw[upd_ne (ne_of e h (by intro z;cases z))];exact e⟩
theorem ER.gr {T:Tx}{ρ ρ':List Addr}{H H':Hp}{env:En}{σ:St}(h:ER T ρ H env σ)(u:Gr ρ H ρ' H'):ER T ρ' H' env σ:=
 ⟨h.len,λ i v e=>let ⟨x,e1,q⟩:=h.get i v e;⟨x,e1,q.gr u⟩⟩
abbrev Gd:=List (Nat × List AV)
def gOk (gs:Gd)(s:S):Prop:=∀ p∈gs,lstO s p.1=some p.2
theorem gOk_nil (s:S):gOk [] s ↔ True:=by simp[gOk]
theorem gOk_one (i:Nat)(xs:List AV)(s:S):gOk [(i,xs)] s ↔ lstO s i=some xs:=by simp[gOk]
structure Walks (T:Tx)(ρ:List Addr)(H:Hp)(xs:List AV)(gs:Gd)(J:It):Prop where
 turn:∀ ρ' s' H',Up ρ H ρ' H'->SR T ρ' s' H'->gOk gs s'->(∀ (j:Nat) (v:AV),xs[j]? = some v->J.go j H'/\∀ x H'',J.yld j H' x H''->Up ρ' H' ρ' H''/\SR T ρ' s' H''/\VR T ρ' H'' v x)/\J.stop xs.length H'
abbrev Src:=En->S->R (List AV × Gd)
def rW (T:Tx):Rl (List AV × Gd) It:=⟨λ _ ρ H p J=>Walks T ρ H p.1 p.2 J,λ _ h=>h⟩
abbrev tW (T:Tx)(XE:XEt)(m:Src):TI:=tG T XE (rW T) m
section
variable {T:Tx}{XE:XEt}{X:Cx}{pos:Pos}
theorem walk_list {K:PySem.W.Frag}{a:Addr}{H':Hp}{vs:List V}(h:H' a=some (.lst vs)∨SqF K H' a vs) {ρ':List Addr}{s':S}{xs:List AV}(sr:SR T ρ' s' H')(k:VRs T ρ' H' xs vs) :
  (∀ (j:Nat) (v:AV),xs[j]? = some v->(Itl K a).go j H'/\∀ x H'',(Itl K a).yld j H' x H''->Up ρ' H' ρ' H''/\SR T ρ' s' H''/\VR T ρ' H'' v x)/\(Itl K a).stop xs.length H':=by
 have hq:SqL K H' a vs:=by rcases h with h|h;exact SqL.of h;exact h.sqL
 refine⟨λ j v e=>?_,⟨vs,hq,by rw[k.length];exact Nat.le_refl _⟩⟩
 obtain⟨x,ex,kx⟩:=k.get e
 refine⟨⟨vs,x,hq,ex⟩,λ y H'' ⟨e1,e2⟩=>?_⟩
 subst e1
 have:=e2 vs hq
 rw[ex]at this
 cases this
 exact⟨.refl,sr,kx⟩
theorem walk_tup {K:PySem.W.Frag}{a:Addr}{H':Hp}{vs:List V}(hq:SqT K H' a vs){ρ':List Addr}{s':S}{xs:List AV}(sr:SR T ρ' s' H')(k:VRs T ρ' H' xs vs) :
  (∀ (j:Nat) (v:AV),xs[j]? = some v->(Itt K a).go j H'/\∀ x H'',(Itt K a).yld j H' x H''->Up ρ' H' ρ' H''/\SR T ρ' s' H''/\VR T ρ' H'' v x)/\(Itt K a).stop xs.length H':=by
 refine⟨λ j v e=>?_,⟨vs,hq,by rw[k.length];exact Nat.le_refl _⟩⟩
 obtain⟨x,ex,kx⟩:=k.get e
 refine⟨⟨vs,x,hq,ex⟩,λ y H'' ⟨e1,e2⟩=>?_⟩
 subst e1
 have:=e2 vs hq
 rw[ex]at this
 cases this
 exact⟨.refl,sr,kx⟩
def srcL (r:Evs):Src:=λ env s=>(r env s).bind λ xs s1=>.ok (xs,[]) s1
theorem mi_l {tg e:Expr}{r:Evs}(hK:X.K=T.K)(h:PE X e (tL T XE r)):PI X tg e (tW T XE (srcL r)):=
 PI.imp (pi_list h) λ σ H R ⟨ρ,env,s,hs,he,ho⟩=>by
  refine⟨ρ,env,s,hs,he,?_⟩
  unfold srcL at ho
  cases e:r env s with
  | bad=>rw[e]at ho;exact ho
  | ex c s1=>rw[e]at ho;exact ho
  | ok xs s1=>
   rw[e]at ho
   intro ρ1 H1 x u sr ⟨a,vs,e1,h0,h1,h2,k⟩
   subst e1
   refine⟨a,rfl,⟨vs,SqL.of h2⟩,ho ρ1 H1 _ u sr ⟨λ ρ' s' H' u' sr' _=>?_⟩⟩
   rw[hK]
   exact walk_list (.inl (u'.fr a _ h2 h1).1) sr' (k.up u')
def srcV' (m:Ev):Src:=λ env s=>(m env s).bind λ v s1=>match v with
 | .tup xs=>.ok (xs,[]) s1
 | .sq xs=>.ok (xs,[]) s1
 | .ref i=>need (lstO s1 i) λ xs=>.ok (xs,[(i,xs)]) s1
 | _=>.bad
theorem mi_v {tg e:Expr}{m:Ev}(hK:X.K=T.K)(h:PE X e (tE T XE m)):PI X tg e (tW T XE (srcV' m)):=
 PI.imp (pi_seq h) λ σ H R ⟨ρ,env,s,hs,he,ho⟩=>step hs he ho λ v s1 ρ1 H1 x _ u1 sr1 er1 vr1 ho1=>by
  have vr1:VR T ρ1 H1 v x:=vr1
  cases v with
  | tup xs=>
   obtain⟨a,vs,rfl,h1,k⟩:=vr1.tup_inv
   refine⟨a,rfl,.inr ⟨⟨vs,hK ▸ h1⟩,ho1 ρ1 H1 _ .refl sr1 ⟨λ ρ' s' H' u' sr' _=>?_⟩⟩⟩
   rw[hK]
   exact walk_tup (u'.sqT h1) sr' (k.up u')
  | sq xs=>
   obtain⟨a,vs,rfl,h1,k⟩:=vr1.sq_inv
   refine⟨a,rfl,.inl ⟨⟨vs,hK ▸ h1.sqL⟩,ho1 ρ1 H1 _ .refl sr1 ⟨λ ρ' s' H' u' sr' _=>?_⟩⟩⟩
   rw[hK]
   exact walk_list (.inr (u'.sqF h1)) sr' (k.up u')
  | ref i=>
   obtain⟨xs,e0,ho1⟩:=ho1.needInv
   obtain⟨a,vs,rfl,ea,h1,k⟩:=sr1.lstAt (lstO_inv e0) vr1
   refine⟨a,rfl,.inl ⟨⟨vs,SqL.of h1⟩,ho1 ρ1 H1 _ .refl sr1 ⟨λ ρ' s' H' u' sr' g=>?_⟩⟩⟩
   have e2:=(gOk_one i xs s').mp g
   obtain⟨b,ws,eb,_,h2,k2⟩:=sr'.lstAt (lstO_inv e2) (VR.up u' vr1)
   cases eb
   exact walk_list (.inl h2) sr' k2
  | non=>exact ho1.elim
  | bl b=>exact ho1.elim
  | int b=>exact ho1.elim
  | str b=>exact ho1.elim
def rngA (lo:Int)(n:Nat):List AV:=(List.range n).map λ(i:Nat)=>AV.int (lo+i)
theorem walk_rng {lo:Int}{n:Nat}{H':Hp}{ρ':List Addr}{s':S}(sr:SR T ρ' s' H') :
  (∀ (j:Nat) (v:AV),(rngA lo n)[j]? = some v->(Itr lo n).go j H'/\∀ x H'',(Itr lo n).yld j H' x H''->Up ρ' H' ρ' H''/\SR T ρ' s' H''/\VR T ρ' H'' v x)/\(Itr lo n).stop (rngA lo n).length H':=by
 have hl:(rngA lo n).length=n:=by simp[rngA]
 refine⟨λ j v e=>?_,by rw[hl];exact Nat.le_refl _⟩
 have hj:j < n:=by have:=(List.getElem?_eq_some_iff.mp e).1;rw[hl]at this;exact this
 refine⟨hj,λ y H'' ⟨e1,e2⟩=>?_⟩
 subst e1 e2
 have:(rngA lo n)[j]? = some (.int (lo+j)):=by simp[rngA,hj]
 rw[this]at e
 cases e
 exact⟨.refl,sr,vr_int⟩
def srcR (r:Evs):Src:=λ env s=>(r env s).bind λ vs s1=>match vs with
 | [.int j]=>if -(2 ^ 62)<=j/\j < 2 ^ 62 then .ok (rngA 0 j.toNat,[]) s1 else .bad
 | [.int i,.int j]=>if -(2 ^ 62)<=i/\i < 2 ^ 62/\-(2 ^ 62)<=j/\j < 2 ^ 62 then .ok (rngA i (j - i).toNat,[]) s1 else .bad
 | _=>.bad
theorem mi_r1 {tg a:Expr}{p:Pos}{m:Ev}(hm:X.mg "range"=none)(ha:PE X a (tE T XE m)) (hg:Gl X "range":=by rfl)(hs:starEach [a] X.env=[(false,eval a X.env)]:=by rfl):PI X tg (.Call (.Name "range" p) [a] [] pos) (tW T XE (srcR (pCons m pNil))):=
 PI.imp (pi_range1 hg hm (pa_cons' ha pa_nil' hs) hs) λ σ H R ⟨ρ,env,s,hs,he,ho⟩=>step hs he ho λ v s1 ρ1 H1 x e u1 sr1 er1 vr1 ho1=>by
  have vr1:VRs T ρ1 H1 v x:=vr1
  obtain⟨w,rfl⟩:∃ w,v=[w]:=by
   unfold pCons pNil at e
   cases e1:m env s with
   | ok w s2=>rw[e1]at e;cases e;exact⟨w,rfl⟩
   | ex c s2=>rw[e1]at e;cases e
   | bad=>rw[e1]at e;cases e
  obtain⟨y,ys,rfl,k1,k2⟩:=vr1.cons_inv
  cases k2.nil_inv
  cases w with
  | int j=>
   obtain⟨⟨h1,h2⟩,ho1⟩:=ho1.ifInv
   cases k1.int_inv
   exact⟨j,rfl,h1,h2,ho1 ρ1 H1 _ .refl sr1 ⟨λ ρ' s' H' u' sr' _=>walk_rng sr'⟩⟩
  | _=>exact ho1.elim
noncomputable def forL (tgt:Mt)(body:Ms)(gs:Gd):List AV->En->S->RS
 | [],env,s=>open Classical in if gOk gs s then .nx env s else .bad
 | v :: r,env,s=>open Classical in if gOk gs s then (match tgt v env s with
   | .nx e1 s1=>(match body e1 s1 with
    | .nx e2 s2=>forL tgt body gs r e2 s2
    | .ct e2 s2=>forL tgt body gs r e2 s2
    | .bk e2 s2=>.nx e2 s2
    | q=>q)
   | .ex c s1=>.ex c s1
   | _=>.bad) else .bad
noncomputable def sFor (src:Src)(tgt:Mt)(body:Ms):Ms:=λ env s=>(src env s).bindS λ p s1=>forL tgt body p.2 p.1 env s1
theorem OutS.ifInv {ρ:List Addr}{H:Hp}{c:Prop}{_:Decidable c}{r:RS}{D:Ends}(h:OutS T XE ρ H (if c then r else .bad) D):c/\OutS T XE ρ H r D:=by
 by_cases hc:c
 ·rw[if_pos hc]at h;exact⟨hc,h⟩
 ·rw[if_neg hc]at h;exact h.elim
theorem ms_for {tg iter:Expr}{body:List Stmt}{src:Src}{tgt:Mt}{mb:Ms}(hp:PassesOwn (model X.prog X.w) X.A X.env X.xe) (hc:X.calm=true)(hi:PI X tg iter (tW T XE src)) (hg:PG X tg (tT T XE tgt)) (hb:PSs X body (tS T XE mb))
  (hs:∀ x,foldedSetIterable iter X.env x=pure x:=by intro _;rfl):PS X (.For tg iter body [] pos) (tS T XE (sFor src tgt mb)):=
 PS.imp (ps_for hp hc hi hg hb hs) λ D σ H ⟨ρ,env,s,hs,he,ho⟩=>stepS hs he ho λ p s1 ρ1 H1 J _ u1 sr1 er1 wk ho1=>by
  obtain⟨xs,gs⟩:=p
  have wk:Walks T ρ1 H1 xs gs J:=wk
  refine⟨λ i m σ' H'=>m=xs.length - i/\i<=xs.length/\∃ ρ' env' s',Up ρ1 H1 ρ' H'/\SR T ρ' s' H'/\ER T ρ' H' env' σ'/\OutS T XE ρ' H' (forL tgt mb gs (xs.drop i) env' s') D,⟨_,rfl,Nat.zero_le _,ρ1,env,s1,.refl,sr1,er1,ho1⟩,?_⟩
  rintro i m σ' H' ⟨rfl,hi,ρ',env',s',u',sr',er',ho'⟩
  by_cases hlt:i < xs.length
  ·rw[List.drop_eq_getElem_cons hlt]at ho'
   unfold forL at ho'
   obtain⟨hg',ho'⟩:=ho'.ifInv
   obtain⟨w1,w2⟩:=(wk.turn ρ' s' H' u' sr' hg').1 i xs[i] (List.getElem?_eq_getElem hlt)
   refine .inr ⟨w1,λ σ2 H2=>∃ ρ2 env2 s2,Up ρ1 H1 ρ2 H2/\SR T ρ2 s2 H2/\ER T ρ2 H2 env2 σ2/\OutS T XE ρ2 H2 (forL tgt mb gs (xs.drop (i+1)) env2 s2) D,λ σ2 H2 h2=>⟨xs.length - (i+1),by omega,rfl,hlt,h2⟩,λ x H'' hy=>?_⟩
   obtain⟨y1,y2,y3⟩:=w2 x H'' hy
   refine⟨ρ',env',s',xs[i],y2,er'.up y1,y3,?_⟩
   have ho':=OutS.up y1 ho'
   cases et:tgt xs[i] env' s' with
   | nx e1 s1=>
    simp only[et]at ho'
    refine λ ρ2 H2 σ2 u2 sr2 er2=>⟨ρ2,e1,s1,sr2,er2,?_⟩
    have ho':=OutS.up u2 ho'
    have up2:Up ρ1 H1 ρ2 H2:=(u'.trans y1).trans u2
    cases eb:mb e1 s1 with
    | nx e2 s2=>simp only[eb]at ho';exact λ ρ3 H3 σ3 u3 sr3 er3=>⟨ρ3,e2,s2,up2.trans u3,sr3,er3,OutS.up u3 ho'⟩
    | ct e2 s2=>simp only[eb]at ho';exact λ ρ3 H3 σ3 u3 sr3 er3=>⟨ρ3,e2,s2,up2.trans u3,sr3,er3,OutS.up u3 ho'⟩
    | bk e2 s2=>simp only[eb]at ho';exact λ ρ3 H3 σ3 u3 sr3 er3=>ho' ρ3 H3 σ3 u3 sr3 er3
    | rt v s2=>simp only[eb]at ho';exact ho'
    | ex v s2=>simp only[eb]at ho';exact ho'
    | bad=>simp only[eb]at ho';exact ho'
   | ex c s1=>simp only[et]at ho';exact ho'
   | rt v s2=>simp only[et]at ho';exact ho'.elim
   | bk v s2=>simp only[et]at ho';exact ho'.elim
   | ct v s2=>simp only[et]at ho';exact ho'.elim
   | bad=>simp only[et]at ho';exact ho'.elim
  ·have e:i=xs.length:=by omega
   subst e
   rw[List.drop_length]at ho'
   unfold forL at ho'
   obtain⟨hg',ho'⟩:=ho'.ifInv
   exact .inl ⟨(wk.turn ρ' s' H' u' sr' hg').2,ho' ρ' H' σ' .refl sr' er'⟩
abbrev Lc:=List (Str × Option Nat)
def srcE (l:Lc)(env:En):En:=l.map λ p=>p.2.bind λ j=>(env[j]?).join
theorem ER.src {ρ:List Addr}{H:Hp}{env:En}{σ:St}(h:ER T ρ H env σ)(l:Lc):ER T ρ H (srcE l env) (srcV l σ):=by
 refine⟨by simp[srcE,srcV],λ i v e=>?_⟩
 unfold srcE at e
 unfold srcV
 rw[List.getElem?_map]at e ⊢
 cases el:l[i]? with
 | none=>rw[el]at e;cases e
 | some p=>
  rw[el]at e
  obtain⟨n,o⟩:=p
  cases o with
  | none=>cases e
  | some j=>
   have e:some ((env[j]?).join)=some (some v):=e
   have e':env[j]? = some (some v):=by
    cases ej:env[j]? with
    | none=>rw[ej]at e;cases e
    | some q=>rw[ej]at e;cases e;rfl
   obtain⟨x,ex,k⟩:=h.get j v e'
   exact⟨x,by show some ((σ[j]?).join)=_;rw[ex];rfl,k⟩
def XE0:XEt:=λ _ _ _ _=>False
def R.calm {α:Type}:R α->R α
 | .ex _ _=>.bad
 | r=>r
@[simp] theorem calm_ok {α:Type}(a:α) (s:S):(R.ok a s).calm=.ok a s:=rfl
@[simp] theorem calm_bad {α:Type}:(R.bad:R α).calm=.bad:=rfl
def cYes:Eb:=λ _ s=>.ok true s
noncomputable def compL (tgt:Mt)(test:Eb)(elt:Ev)(gs:Gd):List AV->En->S->List AV->R (List AV)
 | [],env,s,acc=>open Classical in if gOk gs s then .ok acc s else .bad
 | v :: r,env,s,acc=>open Classical in if gOk gs s then (match tgt v env s with
   | .nx e1 s1=>(test e1 s1).calm.bind λ b s2=>if b=true then (elt e1 s2).calm.bind λ x s3=>compL tgt test elt gs r e1 s3 (acc++[x]) else compL tgt test elt gs r e1 s2 acc
   | _=>.bad) else .bad
noncomputable def lComp (l:Lc)(src:Src)(tgt:Mt)(test:Eb)(elt:Ev):Evs:=λ env s=>(src env s).bind λ p s1=>if p.1.length<=sizeLine then compL tgt test elt p.2 p.1 (srcE l env) s1 [] else .bad
theorem pif_nil':PIf X [] (tC' T XE cYes):=λ pins s σ H Q I ⟨ρ,env,st,hs,he,ho⟩=>pif_nil pins s σ H Q I (hereB ho hs)
theorem pif_one' {c:Expr}{m:Eb}(h:PT X c (tC' T XE m)):PIf X [c] (tC' T XE m):=pif_one h
theorem comp_of {l:Lc}{src:Src}{tgt:Mt}{test:Eb}{elt:Ev}{σ:St}{H:Hp}{Q:VK}(h:tL T XE (lComp l src tgt test elt) σ H Q):tComp l (tW T XE src) (tT T XE0 tgt) (tC' T XE0 test) (tE T XE0 elt) σ H Q:=by
 obtain⟨ρ,env,s,hs,he,ho⟩:=h
 refine⟨ρ,env,s,hs,he,?_⟩
 unfold lComp at ho
 cases e:src env s with
 | bad=>rw[e]at ho;exact ho
 | ex c s1=>rw[e]at ho;exact ho
 | ok p s1=>
  rw[e]at ho
  obtain⟨xs,gs⟩:=p
  obtain⟨hlen,ho⟩:=ho.ifInv
  have hlen:xs.length<=sizeLine:=hlen
  intro ρ1 H1 J u1 sr1 wk D hD
  have wk:Walks T ρ1 H1 xs gs J:=wk
  have nD:D∉ρ1:=sr1.out hD
  refine⟨λ i m ys σ' H'=>m=xs.length - i/\i<=xs.length/\ys.length<=i/\∃ ρ' env' s' acc,Up ρ1 H1 ρ' H'/\SR T ρ' s' H'/\ER T ρ' H' env' σ'/\H' D=some (.lst ys)/\D∉ρ'/\VRs T ρ' H' acc ys/\Out T XE (rL T) ρ H (compL tgt test elt gs (xs.drop i) env' s' acc) Q,
   ⟨_,rfl,Nat.zero_le _,Nat.le_refl _,ρ1,srcE l env,s1,[],sr1.upNew hD,sr1.new hD,((he.up u1).up (sr1.upNew hD)).src l,upd_same,nD,.nil,ho⟩,?_⟩
  rintro i m ys σ' H' ⟨rfl,hi,hy,ρ',env',s',acc,u',sr',er',hd,nd',ka,ho'⟩
  by_cases hlt:i < xs.length
  ·rw[List.drop_eq_getElem_cons hlt]at ho'
   unfold compL at ho'
   obtain⟨hg',ho'⟩:=ho'.ifInv
   obtain⟨w1,w2⟩:=(wk.turn ρ' s' H' u' sr' hg').1 i xs[i] (List.getElem?_eq_getElem hlt)
   refine .inr ⟨w1,λ x H'' hy'=>?_⟩
   obtain⟨y1,y2,y3⟩:=w2 x H'' hy'
   refine⟨ρ',env',s',xs[i],y2,er'.up y1,y3,?_⟩
   have hd1:=y1.fr D _ hd nd'
   have ka1:=ka.up y1
   cases et:tgt xs[i] env' s' with
   | nx e1 s2=>
    simp only[et]at ho'
    refine λ ρ2 H2 σ2 u2 sr2 er2=>⟨ρ2,e1,s2,sr2,er2,?_⟩
    have hd2:=u2.fr D _ hd1.1 hd1.2
    have ka2:=ka1.up u2
    cases eb:test e1 s2 with
    | bad=>simp only[eb,calm_bad,bind_bad]at ho';exact ho'.elim
    | ex c s3=>simp only[eb,R.calm,bind_bad]at ho';exact ho'.elim
    | ok b s3=>
     simp only[eb,calm_ok,bind_ok]at ho'
     intro ρ3 H3 b' u3 sr3 eb'
     cases (show b=b' from eb')
     have hd3:=u3.fr D _ hd2.1 hd2.2
     have ka3:=ka2.up u3
     have up3:Up ρ1 H1 ρ3 H3:=((u'.trans y1).trans u2).trans u3
     cases b with
     | false=>
      rw[if_neg (by decide)]at ho' ⊢
      exact⟨xs.length - (i+1),by omega,rfl,hlt,by omega,ρ3,e1,s3,acc,up3,sr3,er2.up u3,hd3.1,hd3.2,ka3,ho'⟩
     | true=>
      rw[if_pos rfl]at ho' ⊢
      refine⟨ρ3,e1,s3,sr3,er2.up u3,?_⟩
      cases ev:elt e1 s3 with
      | bad=>simp only[ev,calm_bad,bind_bad]at ho';exact ho'.elim
      | ex c s4=>simp only[ev,R.calm,bind_bad]at ho';exact ho'.elim
      | ok v s4=>
       simp only[ev,calm_ok,bind_ok]at ho'
       intro ρ4 H4 x4 u4 sr4 vr4
       have hd4:=u4.fr D _ hd3.1 hd3.2
       have ka4:=ka3.up u4
       have g5:Gr ρ4 H4 ρ4 (upd H4 D (.lst (ys++[x4]))):=grAt hd4.1
       refine⟨hd4.1,by omega,xs.length - (i+1),by omega,rfl,hlt,by rw[List.length_append];exact Nat.succ_le_succ hy,ρ4,e1,s4,acc++[v],(up3.trans u4).mod hD hd4.2,sr4.up g5 λ a ha=>upd_ne λ z=>hd4.2 (z ▸ ha),((er2.up u3).up u4).gr g5,upd_same,hd4.2,(ka4.append (.one vr4)).gr g5,ho'⟩
   | ex c s1=>simp only[et]at ho';exact ho'.elim
   | rt v s2=>simp only[et]at ho';exact ho'.elim
   | bk v s2=>simp only[et]at ho';exact ho'.elim
   | ct v s2=>simp only[et]at ho';exact ho'.elim
   | bad=>simp only[et]at ho';exact ho'.elim
  ·have e:i=xs.length:=by omega
   subst e
   rw[List.drop_length]at ho'
   unfold compL at ho'
   obtain⟨hg',ho'⟩:=ho'.ifInv
   exact .inl ⟨(wk.turn ρ' s' H' u' sr' hg').2,ho' ρ' H' (.ref D) (u1.trans u') sr' ⟨D,ys,rfl,u1.live D hD,nd',hd,ka⟩⟩
theorem ml_comp {elt tg iter:Expr}{ifs:List Expr}{scope:Scope}{src:Src}{tgt:Mt}{test:Eb}{me:Ev}(l:Lc)(hsc:CompScope X scope l)(hcalm:X.calm=true)(hi:PI X tg iter (tW T XE src))
  (hg:∀ cl C fp s3 H3,PG (cxComp X l scope cl C fp s3 H3) tg (tT T XE0 tgt)) (ht:∀ cl C fp s3 H3,PIf (cxComp X l scope cl C fp s3 H3) ifs (tC' T XE0 test)) (he:∀ cl C fp s3 H3,PE (cxComp X l scope cl C fp s3 H3) elt (tE T XE0 me))
  (hs:∀ x,foldedSetIterable iter X.env x=pure x:=by intro _;rfl):PE X (.ListComp elt [⟨tg,iter,ifs,0⟩] scope pos) (tL T XE (lComp l src tgt test me)):=
 PE.imp (pe_comp l hsc hcalm hi hg ht he hs) λ _ _ _ h=>comp_of h
theorem new_of {r:Evs}{σ:St}{H:Hp}{Q:VK}(h:tE T XE (mNew r) σ H Q):tL T XE r σ H Q:=by
 obtain⟨ρ,env,s,hs,he,ho⟩:=h
 refine⟨ρ,env,s,hs,he,?_⟩
 unfold mNew at ho
 cases e:r env s with
 | bad=>rw[e]at ho;exact ho
 | ex c s1=>rw[e]at ho;exact ho
 | ok vs s1=>
  rw[e]at ho
  intro ρ1 H1 x u sr ⟨a,ws,e1,h0,h1,h2,k⟩
  subst e1
  have g:Gr ρ1 H1 (ρ1++[a]) H1:=⟨List.prefix_append _ _,λ _ _ z=>z,λ _ _ _ z=>z⟩
  refine ho (ρ1++[a]) H1 (.ref a) (u.add h0) (sr.add h1 (OR.lst h2 (k.gr g))) (vr_ref (T:=T) (H:=H1) ?_)
  rw[List.getElem?_append_right (by rw[sr.len];exact Nat.le_refl _),sr.len,Nat.sub_self];rfl
theorem ms_setComp {i:Nat}{y:Str}{py spos:Pos}{elt tg iter:Expr}{ifs:List Expr}{scope:Scope}{src:Src}{tgt:Mt}{test:Eb}{me:Ev}(l:Lc)(hsc:CompScope X scope l)(hcalm:X.calm=true)(hN:X.N.Nodup)(hi:PI X tg iter (tW T XE src))
  (hg:∀ cl C fp s3 H3,PG (cxComp X l scope cl C fp s3 H3) tg (tT T XE0 tgt)) (ht:∀ cl C fp s3 H3,PIf (cxComp X l scope cl C fp s3 H3) ifs (tC' T XE0 test)) (he:∀ cl C fp s3 H3,PE (cxComp X l scope cl C fp s3 H3) elt (tE T XE0 me))
  (hy:X.N[i]? = some y:=by rfl) (hx:X.env.scope.names.lookup y=some .local:=by rfl)
  (hsw:swapsWith (.ListComp elt [⟨tg,iter,ifs,0⟩] scope pos) (some (.Name y py)) spos.line X.env=pure true:=by rfl)
  (hs:∀ x,foldedSetIterable iter X.env x=pure x:=by intro _;rfl) :
  PS X (.Assign [.Name y py] (.ListComp elt [⟨tg,iter,ifs,0⟩] scope pos) spos) (tS T XE (sSet i (mNew (lComp l src tgt test me)))):=
 PS.imp (ps_setComp l hsc hcalm hN hy hx hi hg ht he hsw hs) λ D σ H h=>comp_of (new_of (asg_of h))
def fnR (n:Nat)(body:Ms):List AV->S->R AV:=λ args s=>match body (args.map some++List.replicate (n - args.length) none) s with
 | .rt v s1=>.ok v s1
 | .nx _ s1=>.ok .non s1
 | .ex c s1=>.ex c s1
 | _=>.bad
def spOf (T:Tx)(n:Nat)(F:List AV->S->R AV):Sp:=λ vs H Q _=>vs.length=n/\∃ ρ s args,SR T ρ s H/\VRs T ρ H args vs/\Out T XE0 (rV T) ρ H (F args s) Q
theorem er_start {ρ:List Addr}{H:Hp}{args:List AV}{vs:List V}(N:List Str)(k:VRs T ρ H args vs):ER T ρ H (args.map some++List.replicate (N.length - args.length) none) (L2.start N vs):=by
 refine⟨by simp[L2.start,k.length],λ i v e=>?_⟩
 unfold L2.start
 have hi:i < args.length:=by
  by_cases hi:i < args.length
  ·exact hi
  ·rw[List.getElem?_append_right (by simpa using hi),List.getElem?_replicate]at e
   split at e<;>cases e
 rw[List.getElem?_append_left (by simpa using hi),List.getElem?_map]at e
 cases ea:args[i]? with
 | none=>rw[ea]at e;cases e
 | some w=>
  rw[ea]at e;cases e
  obtain⟨x,ex,q⟩:=k.get ea
  exact⟨x,by rw[List.getElem?_append_left (by simpa[<-k.length]using hi),List.getElem?_map,ex];rfl,q⟩
theorem fn_ok {P:Program}{w:World}{mg:Str->Option Value}{base:Heap}{x qual:Str}{st:Stmt}{f:Addr}{fd:FuncData}{N ps:List Str}{k:Nat}{body:Ms}(F:Fun T.K x qual st f fd)(S:FnScope N ps (defScope st))
  (hb:∀ (cdv:Value) (A:Around) (outer:List Env) (s:Shared) (H:Hp) (E:XK),Room k (A.deeper (PyProof.Rows.envOfC qual (defScope st) s.heap.objs.size f cdv))->PSs (cxOf CX0 P w T.K mg base N qual (defScope st) f cdv A outer s H E).nox (defBody st) (tS T XE0 body)) :
  FnOk P w T.K mg base CX0 (k+1) f fd ps (spOf T ps.length (fnR N.length body)):=
 F.ok S (λ vs H Q E h=>h.1) λ cdv A outer s H vs Q E hr ⟨hl,ρ,st',args,sr,va,ho⟩=>by
  refine⟨_,hb cdv A outer s H E hr,ρ,_,st',sr,er_start N va,?_⟩
  unfold fnR at ho
  cases e:body (args.map some++List.replicate (N.length - args.length) none) st' with
  | nx e1 s1=>simp only[e]at ho;exact λ ρ2 H2 σ2 u sr er=>ho ρ2 H2 .non u sr (vr_non (T:=T) (ρ:=ρ2) (H:=H2))
  | rt v s1=>simp only[e]at ho;exact ho
  | ex c s1=>simp only[e]at ho;exact ho
  | bk v s1=>simp only[e]at ho;exact ho.elim
  | ct v s1=>simp only[e]at ho;exact ho.elim
  | bad=>simp only[e]at ho;exact ho.elim
def mCall (n:Nat)(F:List AV->S->R AV)(r:Evs):Ev:=λ env s=>(r env s).bind λ vs s1=>if vs.length=n then F vs s1 else .bad
theorem call_of {n:Nat}{F:List AV->S->R AV}{r:Evs}{σ:St}{H:Hp}{Q:VK}(h:tE T XE0 (mCall n F r) σ H Q):tCall (spOf T n F) [] E0 (tP T XE0 r) σ H Q:=by
 obtain⟨ρ,env,s,hs,he,ho⟩:=h
 refine step hs he ho λ vs s1 ρ1 H1 xs _ u1 sr1 er1 vr1 ho1=>?_
 obtain⟨hl,ho1⟩:=ho1.ifInv
 have vr1:VRs T ρ1 H1 vs xs:=vr1
 rw[List.append_nil]
 exact⟨by rw[<-vr1.length];exact hl,ρ1,s1,vs,sr1,vr1,ho1⟩
theorem me_call {k n:Nat}{f:Addr}{fd:FuncData}{ps:List Str}{Fn:List AV->S->R AV}{x:Str}{p:Pos}{e:Expr}{es:List Expr}{r:Evs}(hK:X.K=T.K)(G:FnOk X.prog X.w T.K X.mg X.base CX0 k f fd ps (spOf T n Fn)) (hr:Room k X.A)(hm:X.mg x=some (.ref f)) (hk:PySem.W.keepIn T.K (.ref f)=true) (hb:Binds T.K fd ps [])
  (ha:PA X (e :: es) (tP T XE0 r)) (hg:Gl X x:=by rfl) (hdb:(x == ("__debug__":Str))=false:=by decide) (he:starEach (e :: es) X.env=(false,eval e X.env) :: starEach es X.env:=by rfl) (hpl:(backTo pos (starEach es X.env)).any (·.1)=false:=by rfl) :
  PE X (.Call (.Name x p) (e :: es) [] pos) (tE T XE0 (mCall n Fn r)):=
 PE.imp (pe_call (E:=E0) (by rw[hK];exact G) hr hg hm (by rw[hK];exact hk) (by rw[hK];exact hb) .nil pass0 ha hdb he hpl) λ _ _ _ h=>call_of h
end
end Mm
namespace Ro
open PySem L2
def gsg (top below:Int):Int:=if below < 0 then -((Int.gcd top below:Nat):Int) else ((Int.gcd top below:Nat):Int)
def fr (top below:Int):Int × Int:=(top.fdiv (gsg top below),below.fdiv (gsg top below))
theorem gcd_pos {t b:Int}(h:b≠0):0 < Int.gcd t b:=Int.gcd_pos_of_ne_zero_right t h
theorem gsg_ne {t b:Int}(h:b≠0):gsg t b≠0:=by
 have:=gcd_pos (t:=t) h
 unfold gsg
 split<;>omega
theorem gsg_natAbs (t b:Int):(gsg t b).natAbs=Int.gcd t b:=by
 unfold gsg
 split<;>omega
theorem gsg_dvd_l (t b:Int):gsg t b ∣ t:=by
 unfold gsg
 split
 ·exact(Int.neg_dvd).mpr (Int.gcd_dvd_left ..)
 ·exact Int.gcd_dvd_left ..
theorem gsg_dvd_r (t b:Int):gsg t b ∣ b:=by
 unfold gsg
 split
 ·exact(Int.neg_dvd).mpr (Int.gcd_dvd_right ..)
 ·exact Int.gcd_dvd_right ..
theorem fdiv_of_dvd {a g:Int}(h:g ∣ a):a.fdiv g * g=a:=Int.fdiv_mul_cancel h
theorem dvd_co {x y v:Int}(h:y ∣ x * v)(h2:Int.gcd x y=1):y ∣ v:=by
 have h1:y.natAbs ∣ x.natAbs * v.natAbs:=by rw[<-Int.natAbs_mul];exact Int.natAbs_dvd_natAbs.mpr h
 have hc:Nat.Coprime y.natAbs x.natAbs:=by
  show Nat.gcd y.natAbs x.natAbs=1
  rw[Nat.gcd_comm]
  exact h2
 exact Int.natAbs_dvd_natAbs.mp (hc.dvd_of_dvd_mul_left h1)
theorem fr_l (t b:Int):(fr t b).1 * gsg t b=t:=fdiv_of_dvd (gsg_dvd_l t b)
theorem fr_r (t b:Int):(fr t b).2 * gsg t b=b:=fdiv_of_dvd (gsg_dvd_r t b)
theorem fr_cross (t b:Int)(h:b≠0):(fr t b).1 * b=t * (fr t b).2:=by
 have h1:=fr_l t b
 have h2:=fr_r t b
 generalize (fr t b).1=x at *
 generalize (fr t b).2=y at *
 generalize gsg t b=g at *
 subst h1
 rw[<-h2]
 rw[Int.mul_comm y g,<-Int.mul_assoc,Int.mul_right_comm]
theorem fr_pos (t b:Int)(h:b≠0):1<=(fr t b).2:=by
 have h2:=fr_r t b
 have hg:=gcd_pos (t:=t) h
 have hb:(gsg t b < 0/\b < 0)∨(0 < gsg t b/\0 < b):=by
  unfold gsg
  split
  ·left;omega
  ·right;omega
 generalize (fr t b).2=y at *
 generalize gsg t b=g at *
 rcases hb with⟨h3,h4⟩|⟨h3,h4⟩
 ·refine Int.not_lt.mp λ hy=>?_
  have:0<=y * g:=Int.mul_nonneg_of_nonpos_of_nonpos (by omega) (by omega)
  omega
 ·refine Int.not_lt.mp λ hy=>?_
  have:y * g<=0:=Int.mul_nonpos_of_nonpos_of_nonneg (by omega) (by omega)
  omega
theorem fr_gcd (t b:Int)(h:b≠0):Int.gcd (fr t b).1 (fr t b).2=1:=by
 have h1:=fr_l t b
 have h2:=fr_r t b
 have hg:=gcd_pos (t:=t) h
 have hn:=gsg_natAbs t b
 have e:Int.gcd ((fr t b).1 * gsg t b) ((fr t b).2 * gsg t b)=Int.gcd (fr t b).1 (fr t b).2 * (gsg t b).natAbs:=Int.gcd_mul_right ..
 rw[h1,h2,hn]at e
 have:1 * Int.gcd t b=Int.gcd (fr t b).1 (fr t b).2 * Int.gcd t b:=by rw[Nat.one_mul];exact e
 exact(Nat.eq_of_mul_eq_mul_right hg this).symm
theorem fr_uniq {x y t b:Int}(hb:b≠0)(h1:1<=y)(h2:Int.gcd x y=1)(h3:x * b=t * y):fr t b=(x,y):=by
 have k1:=fr_pos t b hb
 have k2:=fr_gcd t b hb
 have k3:=fr_cross t b hb
 have e:x * (fr t b).2=(fr t b).1 * y:=by
  refine Int.eq_of_mul_eq_mul_right hb ?_
  have e1:x * (fr t b).2 * b=x * b * (fr t b).2:=Int.mul_right_comm ..
  have e2:(fr t b).1 * y * b=(fr t b).1 * b * y:=Int.mul_right_comm ..
  rw[e1,e2,h3,k3,Int.mul_right_comm]
 generalize hx:(fr t b).1=u at *
 generalize hy:(fr t b).2=v at *
 have d1:y ∣ v:=by
  have:y ∣ x * v:=⟨u,by rw[e,Int.mul_comm]⟩
  exact dvd_co this h2
 have d2:v ∣ y:=by
  have:v ∣ u * y:=⟨x,by rw[<-e,Int.mul_comm]⟩
  exact dvd_co this k2
 have ev:v=y:=Int.dvd_antisymm (by omega) (by omega) d2 d1
 have eu:u=x:=by
  rw[ev]at e
  exact(Int.eq_of_mul_eq_mul_right (by omega) e).symm
 rw[show fr t b=(u,v) from by rw[<-hx,<-hy],eu,ev]
def low (top below:Int):Int × Int:=
 (((if below < 0 then -1 else 1) * top).fdiv ((Int.gcd top below:Nat):Int),((if below < 0 then -1 else 1) * below).fdiv ((Int.gcd top below:Nat):Int))
theorem low_fr (t b:Int)(hb:b≠0):low t b=fr t b:=by
 unfold low fr gsg
 by_cases h:b < 0
 ·rw[if_pos h,if_pos h]
  have hg:=gcd_pos (t:=t) hb
  have key:∀ a:Int,((Int.gcd t b:Nat):Int) ∣ a->(-1 * a).fdiv ((Int.gcd t b:Nat):Int)=a.fdiv (-((Int.gcd t b:Nat):Int)):=by
   intro a ⟨c,hc⟩
   rw[hc]
   have e1:(-1 * (((Int.gcd t b:Nat):Int) * c))=(-c) * ((Int.gcd t b:Nat):Int):=by
    rw[Int.neg_mul,Int.one_mul,Int.mul_comm,Int.neg_mul]
   have e2:(((Int.gcd t b:Nat):Int) * c)=(-c) * (-((Int.gcd t b:Nat):Int)):=by
    rw[Int.neg_mul_neg,Int.mul_comm]
   rw[e1,Int.mul_fdiv_cancel _ (by omega),e2,Int.mul_fdiv_cancel _ (by omega)]
  rw[key t (Int.gcd_dvd_left ..),key b (Int.gcd_dvd_right ..)]
 ·rw[if_neg h,if_neg h,Int.one_mul,Int.one_mul]
end Ro
namespace Ro
open PySem L2
theorem boot_abs:bootBuiltins "abs"=some (.builtin "abs"):=by decide +kernel
theorem boot_divmod:bootBuiltins "divmod"=some (.builtin "divmod"):=by decide +kernel
theorem boot_list:bootBuiltins "list"=some (.type "list"):=by decide +kernel
theorem boot_tuple:bootBuiltins "tuple"=some (.type "tuple"):=by decide +kernel
theorem boot_int:bootBuiltins "int"=some (.type "int"):=by decide +kernel
theorem boot_bool:bootBuiltins "bool"=some (.type "bool"):=by decide +kernel
theorem boot_str:bootBuiltins "str"=some (.type "str"):=by decide +kernel
theorem boot_isinstance:bootBuiltins "isinstance"=some (.builtin "isinstance"):=by decide +kernel
theorem boot_all:bootBuiltins "all"=some (.builtin "all"):=by decide +kernel
theorem kne:¬ (("cells":Str)="turn"):=by decide +kernel
theorem pw18:(10:Int) ^ (18:Int).toNat=1000000000000000000:=by decide +kernel
end Ro
namespace L2
open PySem PySem.Spec PyProof.Rows
def TagV (K:PySem.W.Frag)(H:Hp)(x:V)(t:String):Prop:=match x with
 | .non=>t="NoneType"
 | .bl _=>t="bool"
 | .int _=>t="int"
 | .str _=>t="str"
 | .ref a=>(t="tuple"/\∃ xs,SqT K H a xs)∨(t="list"/\∃ xs,SqL K H a xs)∨(t="dict"/\((∃ kvs,H a=some (.dK kvs))∨∃ kvs,H a=some (.dT kvs)))
 | _=>False
def rIsT (K:PySem.W.Frag):List V->Hp->VK->Prop:=λ xs H Q=>∃ (t:String) (x:V) (n:String) (b:Bool),xs=[x,.ty n]/\TagV K H x t/\PySem.W.kitOne K (.type t) (.type n)=some b/\Q (.bl b) H
theorem call_isT {X:Cx}:CallR X (.builtin "isinstance") (rIsT X.K):=by
 intro pins s σ H xs us Q I r h
 obtain⟨t,x,n,b,rfl,hd,e,q⟩:=h
 obtain⟨u,w',rfl,ru,rw'⟩:=vals2 r
 obtain rfl:w'=Value.type n:=rw'
 have fin:∀ tk,EP X pins σ Q (.bool b) { s with toks:=tk }:=λ tk=>⟨.bl b,H,I.tok tk,rfl,q⟩
 cases x with
 | non=>cases (show t=_ from hd);exact isinst_ok I ru .non e fin
 | bl y=>cases (show t=_ from hd);exact isinst_ok I ru (.bl y) e fin
 | int y=>cases (show t=_ from hd);exact isinst_ok I ru (.int y) e fin
 | str y=>cases (show t=_ from hd);exact isinst_ok I ru (.str y) e fin
 | ref a=>
  cases ru
  rcases hd with⟨rfl,ys,q1⟩|⟨rfl,ys,q1⟩|⟨rfl,hk⟩
  ·obtain⟨its,_,p,_⟩:=I.tuple q1
   obtain⟨o,h1,h2,_⟩:=p
   exact PySem.W.kia_one PySem.W.kitx_tuple I.kIn ⟨o,h1,h2⟩ e (λ z=>nomatch z) fin
  ·obtain⟨its,_,p,_⟩:=I.list q1
   obtain⟨o,h1,h2,_⟩:=p.isList
   exact PySem.W.kia_one PySem.W.kitx_list I.kIn ⟨o,h1,h2⟩ e (λ z=>nomatch z) fin
  ·have z:∃ o,s.heap.get? a=some o/\o.ExactDict:=by
    rcases hk with⟨kvs,hk⟩|⟨kvs,hk⟩
    ·obtain⟨_,_,_,_,o,_,_,e,ex,_⟩:=I.hok a _ hk
     exact⟨o,e,ex⟩
    ·obtain⟨_,_,_,_,o,_,_,e,ex,_⟩:=I.hok a _ hk
     exact⟨o,e,ex⟩
   obtain⟨o,h1,h2⟩:=z
   exact PySem.W.kia_one PySem.W.kitx_dict I.kIn ⟨o,h1,h2.1⟩ e (λ z=>nomatch z) fin
 | byt y=>exact False.elim hd
 | flt y=>exact False.elim hd
 | ty y=>exact False.elim hd
end L2
namespace Mm
open PySem L2
section
variable {T:Tx}{XE:XEt}{X:Cx}{pos:Pos}
def rCM (T:Tx)(XE:XEt)(op:List AV->S->R AV):List V->Hp->VK->Prop:=λ vs H Q=>∃ ρ args s,SR T ρ s H/\VRs T ρ H args vs/\Out T XE (rV T) ρ H (op args s) Q
def rCQ {α:Type}(T:Tx)(XE:XEt)(rl:Rl α V)(op:List AV->S->R α):List V->Hp->VK->Prop:=λ vs H Q=>∃ a ws ρ xs s,vs=[.ref a]/\SR T ρ s H/\(SqL T.K H a ws∨SqT T.K H a ws)/\VRs T ρ H xs ws/\Out T XE rl ρ H (op xs s) Q
def mOp (op:List AV->S->R AV)(r:Evs):Ev:=λ env s=>(r env s).bind op
def gOp {α:Type}(op:List AV->S->R α)(r:Evs):En->S->R α:=λ env s=>(r env s).bind op
theorem cb_of {op:List AV->S->R AV}{r:Evs}{σ:St}{H:Hp}{Q:VK}(h:tE T XE (mOp op r) σ H Q):tCB (rCM T XE op) (tP T XE r) σ H Q:=by
 obtain⟨ρ,env,s,hs,he,ho⟩:=h
 exact step hs he ho λ v s1 ρ1 H1 x _ u1 sr1 er1 vr1 ho1=>⟨ρ1,v,s1,sr1,vr1,ho1⟩
theorem cq_of {α:Type}{rl:Rl α V}{op:List AV->S->R α}{r:Evs}{σ:St}{H:Hp}{Q:VK}(h:tG T XE rl (gOp op r) σ H Q):tCB (rCQ T XE rl op) (tCons (tQ T XE r) tNil) σ H Q:=by
 obtain⟨ρ,env,s,hs,he,ho⟩:=h
 refine step hs he ho λ v s1 ρ1 H1 x _ u1 sr1 er1 vr1 ho1=>?_
 obtain⟨a,ws,rfl,q,k⟩:=vr1
 exact⟨a,ws,ρ1,v,s1,rfl,sr1,q,k,ho1⟩
theorem me_B {id:String}{op:List AV->S->R AV}{x:Str}{p:Pos}{e:Expr}{es:List Expr}{r:Evs}(hc:CallR X (.builtin id) (rCM T XE op)) (hm:X.mg x=none)(hv:bootBuiltins x=some (.builtin id)) (ha:PA X (e :: es) (tP T XE r)) (hg:Gl X x:=by rfl)(hn:x≠"__name__":=by decide)(hdb:(x == ("__debug__":Str))=false:=by decide)
  (he:starEach (e :: es) X.env=(false,eval e X.env) :: starEach es X.env:=by rfl) (hpl:(backTo pos (starEach es X.env)).any (·.1)=false:=by rfl):PE X (.Call (.Name x p) (e :: es) [] pos) (tE T XE (mOp op r)):=
 PE.imp (pe_callB hc hg hm hv ha hn hdb he hpl) λ _ _ _ h=>cb_of h
theorem me_T {id:String}{op:List AV->S->R AV}{x:Str}{p:Pos}{e:Expr}{es:List Expr}{r:Evs}(hc:CallR X (.type id) (rCM T XE op)) (hm:X.mg x=none)(hv:bootBuiltins x=some (.type id)) (ha:PA X (e :: es) (tP T XE r)) (hg:Gl X x:=by rfl)(hn:x≠"__name__":=by decide)(hdb:(x == ("__debug__":Str))=false:=by decide)
  (he:starEach (e :: es) X.env=(false,eval e X.env) :: starEach es X.env:=by rfl) (hpl:(backTo pos (starEach es X.env)).any (·.1)=false:=by rfl):PE X (.Call (.Name x p) (e :: es) [] pos) (tE T XE (mOp op r)):=
 PE.imp (pe_callTy hc hg hm hv ha hn hdb he hpl) λ _ _ _ h=>cb_of h
theorem mg_T {α:Type}{rl:Rl α V}{id:String}{op:List AV->S->R α}{x:Str}{p:Pos}{e:Expr}{r:Evs}(hc:CallR X (.type id) (rCQ T XE rl op)) (hm:X.mg x=none)(hv:bootBuiltins x=some (.type id)) (ha:PE X e (tQ T XE r)) (hg:Gl X x:=by rfl)(hn:x≠"__name__":=by decide)(hdb:(x == ("__debug__":Str))=false:=by decide)
  (he:starEach [e] X.env=(false,eval e X.env) :: starEach [] X.env:=by rfl) (hpl:(backTo pos (starEach [] X.env)).any (·.1)=false:=by rfl):PE X (.Call (.Name x p) [e] [] pos) (tG T XE rl (gOp op r)):=
 PE.imp (pe_callTy hc hg hm hv (pa_cons ha pa_nil he) hn hdb he hpl) λ _ _ _ h=>cq_of h
def opAbs:List AV->S->R AV
 | [.int i],s=>.ok (.int (if i < 0 then -i else i)) s
 | _,_=>.bad
theorem VRs.one_inv {ρ:List Addr}{H:Hp}{v:AV}{xs:List V}(h:VRs T ρ H [v] xs):∃ x,xs=[x]/\VR T ρ H v x:=by
 obtain⟨x,ys,rfl,k1,k2⟩:=h.cons_inv
 cases k2.nil_inv
 exact⟨x,rfl,k1⟩
theorem VRs.two_inv {ρ:List Addr}{H:Hp}{v w:AV}{xs:List V}(h:VRs T ρ H [v,w] xs):∃ x y,xs=[x,y]/\VR T ρ H v x/\VR T ρ H w y:=by
 obtain⟨x,ys,rfl,k1,k2⟩:=h.cons_inv
 obtain⟨y,rfl,k3⟩:=k2.one_inv
 exact⟨x,y,rfl,k1,k3⟩
theorem cAbs:CallR X (.builtin "abs") (rCM T XE opAbs):=by
 intro pins s σ H xs us Q I r ⟨ρ,args,st,sr,va,ho⟩
 unfold opAbs at ho
 split at ho
 ·obtain⟨x,rfl,k⟩:=va.one_inv
  cases k.int_inv
  exact call_abs pins s σ H _ us Q I r ⟨_,rfl,ho.hereV sr vr_int⟩
 ·exact ho.elim
def opMin:List AV->S->R AV
 | [.int i,.int j],s=>.ok (.int (if j < i then j else i)) s
 | _,_=>.bad
def opMax:List AV->S->R AV
 | [.int i,.int j],s=>.ok (.int (if j > i then j else i)) s
 | _,_=>.bad
theorem cMax (hc:X.calm=true):CallR X (.builtin "max") (rCM T XE opMax):=by
 intro pins s σ H xs us Q I r ⟨ρ,args,st,sr,va,ho⟩
 unfold opMax at ho
 split at ho
 ·obtain⟨x,y,rfl,k,k2⟩:=va.two_inv
  cases k.int_inv
  cases k2.int_inv
  exact call_max2 hc pins s σ H _ us Q I r ⟨_,_,rfl,ho.hereV sr vr_int⟩
 ·exact ho.elim
noncomputable def opDivmod:List AV->S->R AV
 | [.int i,.int j],s=>if 0 < j/\Mid j then .ok (.tup [.int (i / j),.int (i % j)]) s else .bad
 | _,_=>.bad
theorem cDivmod:CallR X (.builtin "divmod") (rCM T XE opDivmod):=by
 intro pins s σ H xs us Q I r ⟨ρ,args,st,sr,va,ho⟩
 unfold opDivmod at ho
 split at ho
 ·obtain⟨x,y,rfl,k,k2⟩:=va.two_inv
  cases k.int_inv
  cases k2.int_inv
  obtain⟨hl,ho⟩:=ho.ifInv
  exact call_divmodP pins s σ H _ us Q I r ⟨_,_,rfl,⟨hl.1,hl.2.f⟩,λ p hp=>ho.tup sr hp (.cons vr_int (.one vr_int))⟩
 ·exact ho.elim
def opInt:List AV->S->R AV
 | [.int i],s=>.ok (.int i) s
 | [.bl b],s=>.ok (.int (if b then 1 else 0)) s
 | _,_=>.bad
theorem cInt:CallR X (.type "int") (rCM T XE opInt):=by
 intro pins s σ H xs us Q I r ⟨ρ,args,st,sr,va,ho⟩
 unfold opInt at ho
 split at ho
 ·obtain⟨x,rfl,k⟩:=va.one_inv
  cases k.int_inv
  exact call_int1 pins s σ H _ us Q I r (.inl ⟨_,rfl,ho.hereV sr vr_int⟩)
 ·obtain⟨x,rfl,k⟩:=va.one_inv
  cases k.bl_inv
  exact call_int1 pins s σ H _ us Q I r (.inr ⟨_,rfl,ho.hereV sr vr_int⟩)
 ·exact ho.elim
def opLen:List AV->S->R AV
 | [.str z],s=>if z.length<=sizeLine then .ok (.int z.length) s else .bad
 | [v],s=>need (items v s) λ xs=>.ok (.int xs.length) s
 | _,_=>.bad
theorem cLen (hK:X.K=T.K):CallR X (.builtin "len") (rCM T XE opLen):=by
 intro pins s σ H xs us Q I r ⟨ρ,args,st,sr,va,ho⟩
 have rest:∀ v,args=[v]->Out T XE (rV T) ρ H (need (items v st) λ xs=>.ok (.int xs.length) st) Q->wpAny (model X.prog X.w) X.A (call (.builtin "len") us) (EP X pins σ Q) X.xe s:=by
  rintro v rfl ho
  obtain⟨ys,e,ho⟩:=ho.needInv
  obtain⟨x,rfl,k⟩:=va.one_inv
  obtain⟨a,vs,rfl,h1,k1⟩:=items_inv e sr k
  exact call_len_seq pins s σ H _ us Q I r ⟨a,vs,rfl,by rw[hK];exact h1,by rw[<-k1.length];exact ho.hereV sr vr_int⟩
 unfold opLen at ho
 split at ho
 ·obtain⟨x,rfl,k⟩:=va.one_inv
  cases k.str_inv
  obtain⟨hl,ho⟩:=ho.ifInv
  exact call_len_str pins s σ H _ us Q I r ⟨_,rfl,hl,ho.hereV sr vr_int⟩
 ·exact rest _ rfl ho
 ·exact ho.elim
def blsO:List AV->Option (List Bool)
 | []=>some []
 | .bl i :: r=>(blsO r).map (i :: ·)
 | _ :: _=>none
theorem blsO_inv:∀ {l:List AV}{ns:List Bool},blsO l=some ns->l=ns.map .bl
 | [],_,h=>by cases h;rfl
 | v :: r,ns,h=>by
  cases v<;>try cases h
  rename_i i
  cases e:blsO r with
  | none=>rw[show blsO (.bl i :: r)=(blsO r).map (i :: ·) from rfl,e]at h;cases h
  | some q=>
   rw[show blsO (.bl i :: r)=(blsO r).map (i :: ·) from rfl,e]at h;cases h
   rw[blsO_inv e];rfl
@[simp] theorem blsO_map (ns:List Bool):blsO (ns.map .bl)=some ns:=by
 induction ns with
 | nil=>rfl
 | cons a r ih=>show(blsO (r.map .bl)).map (a :: ·)=_;rw[ih];rfl
def qAll (xs:List AV)(s:S):R AV:=need (blsO xs) λ ns=>.ok (.bl (ns.all id)) s
def rCL {α:Type}(T:Tx)(XE:XEt)(rl:Rl α V)(op:List AV->S->R α):List V->Hp->VK->Prop:=λ vs H Q=>∃ a ws ρ xs s,vs=[.ref a]/\SR T ρ s H/\H a=some (.lst ws)/\VRs T ρ H xs ws/\Out T XE rl ρ H (op xs s) Q
theorem cl_of {α:Type}{rl:Rl α V}{op:List AV->S->R α}{r:Evs}{σ:St}{H:Hp}{Q:VK}(h:tG T XE rl (gOp op r) σ H Q):tCB (rCL T XE rl op) (tCons (tL T XE r) tNil) σ H Q:=by
 obtain⟨ρ,env,s,hs,he,ho⟩:=h
 refine step hs he ho λ v s1 ρ1 H1 x _ u1 sr1 er1 vr1 ho1=>?_
 obtain⟨a,ws,rfl,_,_,q,k⟩:=vr1
 exact⟨a,ws,ρ1,v,s1,rfl,sr1,q,k,ho1⟩
theorem mg_BL {α:Type}{rl:Rl α V}{id:String}{op:List AV->S->R α}{x:Str}{p:Pos}{e:Expr}{r:Evs}(hc:CallR X (.builtin id) (rCL T XE rl op)) (hm:X.mg x=none)(hv:bootBuiltins x=some (.builtin id)) (ha:PE X e (tL T XE r)) (hg:Gl X x:=by rfl)(hn:x≠"__name__":=by decide)(hdb:(x == ("__debug__":Str))=false:=by decide)
  (he:starEach [e] X.env=(false,eval e X.env) :: starEach [] X.env:=by rfl) (hpl:(backTo pos (starEach [] X.env)).any (·.1)=false:=by rfl):PE X (.Call (.Name x p) [e] [] pos) (tG T XE rl (gOp op r)):=
 PE.imp (pe_callB hc hg hm hv (pa_cons ha pa_nil he) hn hdb he hpl) λ _ _ _ h=>cl_of h
theorem cAll (hc:X.calm=true):CallR X (.builtin "all") (rCL T XE (rV T) qAll):=by
 intro pins s σ H xs us Q I r ⟨a,ws,ρ,ys,st,e,sr,h1,k,ho⟩
 subst e
 obtain⟨ns,e,ho⟩:=ho.needInv
 rw[blsO_inv e]at k
 rw[k.bls_inv]at h1
 exact call_allL hc pins s σ H _ us Q I r ⟨a,ns,rfl,SqL.of h1,ho.hereV sr vr_bl⟩
def qList (xs:List AV)(s:S):R (List AV):=.ok xs s
theorem cList (hK:X.K=T.K):CallR X (.type "list") (rCQ T XE (rL T) qList):=by
 intro pins s σ H xs us Q I r ⟨a,ws,ρ,ys,st,e,sr,h1,k,ho⟩
 subst e
 exact call_list_of pins s σ H _ us Q I r ⟨a,ws,rfl,by rw[hK];exact h1,λ l hl=>ho.lst sr hl k⟩
def qTuple (xs:List AV)(s:S):R AV:=.ok (.tup xs) s
theorem cTuple (hK:X.K=T.K):CallR X (.type "tuple") (rCQ T XE (rV T) qTuple):=by
 intro pins s σ H xs us Q I r ⟨a,ws,ρ,ys,st,e,sr,h1,k,ho⟩
 subst e
 refine call_tuple_of pins s σ H _ us Q I r ⟨a,ws,rfl,?_⟩
 rcases h1 with h1|h1
 ·exact .inl ⟨by rw[hK];exact h1,λ l hl=>ho.tup sr hl k⟩
 ·exact .inr ⟨by rw[hK];exact h1,ho.hereV sr (vr_tup h1 k)⟩
def tagOf (v:AV)(s:S):Option String:=match v with
 | .non=>some "NoneType"
 | .bl _=>some "bool"
 | .int _=>some "int"
 | .str _=>some "str"
 | .tup _=>some "tuple"
 | .sq _=>some "list"
 | .ref i=>match s[i]? with
  | some (.lst _)=>some "list"
  | some (.dK _)=>some "dict"
  | some (.dT _)=>some "dict"
  | _=>none
def tyTags:List String:=["NoneType","bool","int","str","tuple","list","dict"]
def isTag (t n:String):Bool:=t == n || (t == "bool" && n == "int")
theorem kit_of {K:PySem.W.Frag}{t n:String}(ht:t∈tyTags)(hn:n∈tyTags):PySem.W.kitOne K (.type t) (.type n)=some (isTag t n):=by
 simp only[tyTags,List.mem_cons,List.not_mem_nil,or_false]at ht hn
 rcases ht with rfl|rfl|rfl|rfl|rfl|rfl|rfl<;>rcases hn with rfl|rfl|rfl|rfl|rfl|rfl|rfl<;>rfl
theorem tag_inv {ρ:List Addr}{H:Hp}{s:S}{v:AV}{t:String}{x:V}(h:tagOf v s=some t)(sr:SR T ρ s H)(va:VR T ρ H v x):TagV T.K H x t/\t∈tyTags:=by
 cases v with
 | non=>cases va.non_inv;cases h;exact⟨rfl,by simp[tyTags]⟩
 | bl c=>cases va.bl_inv;cases h;exact⟨rfl,by simp[tyTags]⟩
 | int c=>cases va.int_inv;cases h;exact⟨rfl,by simp[tyTags]⟩
 | str c=>cases va.str_inv;cases h;exact⟨rfl,by simp[tyTags]⟩
 | tup c=>obtain⟨a,vs,rfl,h1,k⟩:=va.tup_inv;cases h;exact⟨.inl ⟨rfl,vs,h1⟩,by simp[tyTags]⟩
 | sq c=>obtain⟨a,vs,rfl,h1,k⟩:=va.sq_inv;cases h;exact⟨.inr (.inl ⟨rfl,vs,h1.sqL⟩),by simp[tyTags]⟩
 | ref i=>
  have h:(match s[i]? with
  | some (.lst _)=>some "list"
  | some (.dK _)=>some "dict"
  | some (.dT _)=>some "dict"
  | _=>none)=some t:=h
  obtain⟨a,e1,rfl⟩:=va.ref_inv
  split at h
  ·rename_i xs e
   cases h
   obtain⟨b,e2,vs,h1,_⟩:=sr.obj i _ e
   rw[e1]at e2;cases e2
   exact⟨.inr (.inl ⟨rfl,vs,SqL.of h1⟩),by simp[tyTags]⟩
  ·rename_i xs e
   cases h
   obtain⟨b,e2,vs,h1,_⟩:=sr.obj i _ e
   rw[e1]at e2;cases e2
   exact⟨.inr (.inr ⟨rfl,.inl ⟨vs,h1⟩⟩),by simp[tyTags]⟩
  ·rename_i xs e
   cases h
   obtain⟨b,e2,vs,h1,_⟩:=sr.obj i _ e
   rw[e1]at e2;cases e2
   exact⟨.inr (.inr ⟨rfl,.inr ⟨vs,h1⟩⟩),by simp[tyTags]⟩
  ·cases h
def opIsi (n:String)(v:AV)(s:S):R AV:=need (tagOf v s) λ t=>.ok (.bl (isTag t n)) s
theorem me_isi {n:String}{nm:Str}{p p2:Pos}{e:Expr}{m:Ev}(hK:X.K=T.K)(hn:n∈tyTags)(hm:X.mg "isinstance"=none)(hm2:X.mg nm=none)(hv2:bootBuiltins nm=some (.type n)) (ha:PE X e (tE T XE m)) (hg:Gl X "isinstance":=by rfl)(hg2:Gl X nm:=by rfl)(hnn:nm≠"__name__":=by decide)(hdb:(nm == ("__debug__":Str))=false:=by decide)
  (he:starEach [e,.Name nm p2] X.env=(false,eval e X.env) :: starEach [.Name nm p2] X.env:=by rfl) (he2:starEach [.Name nm p2] X.env=(false,eval (.Name nm p2) X.env) :: starEach [] X.env:=by rfl) (hpl:(backTo pos (starEach [.Name nm p2] X.env)).any (·.1)=false:=by rfl) :
  PE X (.Call (.Name "isinstance" p) [e,.Name nm p2] [] pos) (tE T XE (mUn (opIsi n) m)):=
 PE.imp (pe_callB call_isT hg hm Ro.boot_isinstance (pa_cons ha (pa_cons (pe_bltn (v:=.ty n) hg2 hm2 hv2 rfl hnn hdb) pa_nil he2) he) (by decide) (by decide) he hpl) λ σ H Q ⟨ρ,env,s,hs,he,ho⟩=>
  step hs he ho λ v s1 ρ1 H1 x _ u1 sr1 er1 vr1 ho1=>by
   obtain⟨t,e,ho1⟩:=ho1.needInv
   obtain⟨h1,h2⟩:=tag_inv e sr1 vr1
   exact⟨t,x,n,_,rfl,by rw[hK];exact h1,kit_of h2 hn,ho1.hereV sr1 vr_bl⟩
end
end Mm
namespace Mm
open PySem L2
section
variable {T:Tx}{XE:XEt}{X:Cx}{pos:Pos}
def rMM (T:Tx)(XE:XEt)(op:AV->List AV->S->R AV):V->List V->Hp->VK->Prop:=λ x xs H Q=>∃ ρ v vs s,SR T ρ s H/\VR T ρ H v x/\VRs T ρ H vs xs/\Out T XE (rV T) ρ H (op v vs s) Q
def isTy (n:String)(v:AV)(s:S):Option Unit:=match v,n with
 | .str _,"str"=>some ()
 | .sq _,"list"=>some ()
 | .ref i,"list"=>(lstO s i).map λ _=>()
 | .ref i,"dict"=>match s[i]? with
  | some (.dK _)=>some ()
  | some (.dT _)=>some ()
  | _=>none
 | _,_=>none
theorem isTy_inv {n:String}{ρ:List Addr}{H:Hp}{s:S}{v:AV}{x:V}(h:isTy n v s=some ()) (sr:SR T ρ s H)(va:VR T ρ H v x):tyV T.K n x H:=by
 unfold isTy at h
 split at h
 ·cases va.str_inv;rfl
 ·obtain⟨a,vs,rfl,h1,k⟩:=va.sq_inv
  exact .inl ⟨rfl,vs,h1.sqL⟩
 ·rename_i i
  cases e:lstO s i with
  | none=>rw[e]at h;cases h
  | some xs=>
   obtain⟨a,vs,rfl,_,h1,k⟩:=sr.lstAt (lstO_inv e) va
   exact .inl ⟨rfl,vs,SqL.of h1⟩
 ·rename_i i
  obtain⟨a,e1,rfl⟩:=va.ref_inv
  split at h
  ·rename_i xs e
   obtain⟨b,e2,vs,h1,_⟩:=sr.obj i _ e
   rw[e1]at e2;cases e2
   exact .inr (.inr (.inl ⟨rfl,.inl ⟨vs,h1⟩⟩))
  ·rename_i xs e
   obtain⟨b,e2,vs,h1,_⟩:=sr.obj i _ e
   rw[e1]at e2;cases e2
   exact .inr (.inr (.inl ⟨rfl,.inr ⟨vs,h1⟩⟩))
  ·cases h
 ·cases h
def mMet (n:String)(op:AV->List AV->S->R AV)(o:Ev)(r:Evs):Ev:=λ env s=>(o env s).bind λ v s1=>need (isTy n v s1) λ _=>(r env s1).bind λ vs s2=>op v vs s2
theorem met_of {n:String}{op:AV->List AV->S->R AV}{o:Ev}{r:Evs}{σ:St}{H:Hp}{Q:VK}(h:tE T XE (mMet n op o r) σ H Q):tBM T.K n (rMM T XE op) (tE T XE o) (tP T XE r) σ H Q:=by
 obtain⟨ρ,env,s,hs,he,ho⟩:=h
 refine step hs he ho λ v s1 ρ1 H1 x _ u1 sr1 er1 vr1 ho1=>?_
 obtain⟨_,e,ho1⟩:=ho1.needInv
 exact⟨isTy_inv e sr1 vr1,step sr1 er1 ho1 λ vs s2 ρ2 H2 xs _ u2 sr2 er2 vr2 ho2=>⟨ρ2,v,vs,s2,sr2,VR.up u2 vr1,vr2,ho2⟩⟩
theorem me_met {n id:String}{name:Str}{apos cpos:Pos}{o e:Expr}{es:List Expr}{op:AV->List AV->S->R AV}{m:Ev}{r:Evs}(hK:X.K=T.K)(pa:PlainAttrs n)(slot:Slot n name id)(hty:typeOf (.builtin id)=pure (.type "method_descriptor")) (hm:MtR X id (rMM T XE op)) (ho:PE X o (tE T XE m)) (ha:PA X (e :: es) (tP T XE r))
  (hbase:attributeBase o name X.env (eval o X.env)=eval o X.env:=by rfl)
  (hfew:((backTo cpos (starEach (e :: es) X.env)).all (λ x=>!x.1) && (backToKw cpos (keywordEach [] X.env)).all (λ x=>x.1.isSome)
   && decide ((e :: es).length+([]:List Keyword).length+(if ([]:List Keyword).isEmpty then 0 else 1) < 30))=true:=by rfl)
  (hline:(apos.endLine == cpos.line)=true:=by rfl) (hs:starEach (e :: es) X.env=(false,eval e X.env) :: starEach es X.env:=by rfl) (hplain:(backTo cpos (starEach es X.env)).any (·.1)=false:=by rfl) :
  PE X (.Call (.Attribute o name apos) (e :: es) [] cpos) (tE T XE (mMet n op m r)):=
 PE.imp (pe_bmK hK pa slot hty hm ho ha hbase hfew hline hs hplain) λ _ _ _ h=>met_of h
def mMet0 (n:String)(op:AV->List AV->S->R AV)(o:Ev):Ev:=λ env s=>(o env s).bind λ v s1=>need (isTy n v s1) λ _=>op v [] s1
theorem Out.setL {α β:Type}{rl:Rl α β}{ρ:List Addr}{H:Hp}{s:S}{i:Nat}{a:Addr}{vs ws:List V}{ys:List AV}{v:α}{x:β}{Q:β->Hp->Prop}(ho:Out T XE rl ρ H (.ok v (s.set i (.lst ys))) Q) (sr:SR T ρ s H)(ea:ρ[i]? = some a)(h1:H a=some (.lst vs)) (k:VRs T ρ H ys ws)(hx:rl.r H ρ (upd H a (.lst ws)) v x):Q x (upd H a (.lst ws)):=by
 have up:Up ρ H ρ (upd H a (.lst ws)):=sr.upSet ea h1 (λ _ z=>nomatch z) (λ _ _ z=>nomatch z)
 exact ho ρ _ x up (sr.set ea up (OR.lst upd_same (k.up up))) hx
theorem Out.setLV {ρ:List Addr}{H:Hp}{s:S}{i:Nat}{a:Addr}{vs ws:List V}{ys:List AV}{v:AV}{x:V}{Q:VK}(ho:Out T XE (rV T) ρ H (.ok v (s.set i (.lst ys))) Q) (sr:SR T ρ s H)(ea:ρ[i]? = some a)(h1:H a=some (.lst vs)) (k:VRs T ρ H ys ws)(hx:VR T ρ (upd H a (.lst ws)) v x):Q x (upd H a (.lst ws)):=ho.setL sr ea h1 k hx
def opAppend:AV->List AV->S->R AV
 | .ref i,[w],s=>need (lstO s i) λ xs=>if xs.length < sizeLine then .ok .non (s.set i (.lst (xs++[w]))) else .bad
 | _,_,_=>.bad
def opPop:AV->List AV->S->R AV
 | .ref i,[.int j],s=>need (lstO s i) λ xs=>if 0<=j/\j < xs.length then need xs[j.toNat]? λ y=>.ok y (s.set i (.lst (xs.eraseIdx j.toNat))) else .bad
 | _,_,_=>.bad
theorem VRs.erase {ρ:List Addr}{H:Hp}:∀ {l:List AV}{xs:List V}(i:Nat),VRs T ρ H l xs->VRs T ρ H (l.eraseIdx i) (xs.eraseIdx i)
 | [],_,_,h=>by cases h.nil_inv;exact .nil
 | _ :: _,_,0,h=>by obtain⟨x,ys,rfl,_,k⟩:=h.cons_inv;exact k
 | _ :: _,_,i+1,h=>by obtain⟨x,ys,rfl,k1,k⟩:=h.cons_inv;exact .cons k1 (VRs.erase i k)
theorem dPop:MtR X "list.pop" (rMM T XE opPop):=by
 intro pins s σ H x xs v us Q I rx rv ⟨ρ,a,vs,st,sr,va,vb,ho⟩
 unfold opPop at ho
 split at ho
 ·rename_i i0 j
  obtain⟨ys,e,ho⟩:=ho.needInv
  obtain⟨hj,ho⟩:=ho.ifInv
  obtain⟨y,ey,ho⟩:=ho.needInv
  obtain⟨p,ws,rfl,ea,h1,k⟩:=sr.lstAt (lstO_inv e) va
  obtain⟨z,rfl,k2⟩:=vb.one_inv
  cases k2.int_inv
  obtain⟨y',ey',ky⟩:=k.get ey
  have hl:=k.length
  obtain⟨its,_,_,hz⟩:=I.list (SqL.of h1)
  have h63:=line63
  have up:Up ρ H ρ (upd H p (.lst (ws.eraseIdx j.toNat))):=sr.upSet ea h1 (λ _ z=>nomatch z) (λ _ _ z=>nomatch z)
  refine mt_popAt pins s σ H _ _ v us Q I rx rv ⟨p,ws,j,j.toNat,y',rfl,rfl,h1,by omega,by omega,ix_ok hj.1 (by rw[<-hl];exact hj.2),ey',ho.setLV sr ea h1 (k.erase _) (VR.up up ky)⟩
 ·exact ho.elim
section
variable {κ:Type} [DecidableEq κ]
def valA:List (κ × AV)->κ->Option AV
 | [],_=>none
 | p :: r,k=>if p.1=k then some p.2 else valA r k
def putA (kvs:List (κ × AV)) (k:κ)(v:AV):List (κ × AV):=
 if (kvs.any λ kv=>decide (kv.1=k))=true then kvs.map (λ kv=>if kv.1=k then (kv.1,v) else kv) else kvs++[(k,v)]
theorem val_rel {ρ:List Addr}{H:Hp}(k:κ):∀ {kvs:List (κ × AV)}{ks:List (κ × V)},kvs.map (·.1)=ks.map (·.1)->VRs T ρ H (kvs.map (·.2)) (ks.map (·.2))->(∀ v,valA kvs k=some v->∃ x,valV ks k=some x/\VR T ρ H v x)/\(valA kvs k=none->valV ks k=none)
 | [],ks,e,h=>by
  cases ks with
  | nil=>exact⟨(λ v z=>nomatch z),λ _=>rfl⟩
  | cons a r=>cases e
 | p :: r,ks,e,h=>by
  cases ks with
  | nil=>cases e
  | cons q t=>
   rw[List.map_cons,List.map_cons,List.cons.injEq]at e
   rw[List.map_cons,List.map_cons]at h
   obtain⟨x,ys,e2,k1,k2⟩:=h.cons_inv
   rw[List.cons.injEq]at e2
   obtain⟨ih1,ih2⟩:=val_rel k e.2 (e2.2 ▸ k2)
   unfold valA
   by_cases hp:p.1=k
   ·rw[if_pos hp,valV_pos (e.1 ▸ hp)]
    refine⟨λ v z=>?_,λ z=>nomatch z⟩
    cases z
    exact⟨q.2,rfl,e2.1 ▸ k1⟩
   ·rw[if_neg hp,valV_neg (λ z=>hp (e.1.trans z))]
    exact⟨ih1,ih2⟩
theorem put_rel {ρ:List Addr}{H:Hp}(k:κ){v:AV}{x:V}(kv:VR T ρ H v x){kvs:List (κ × AV)}{ks:List (κ × V)}(e:kvs.map (·.1)=ks.map (·.1)) (h:VRs T ρ H (kvs.map (·.2)) (ks.map (·.2))) :
  (putA kvs k v).map (·.1)=(putK ks k x).map (·.1)/\VRs T ρ H ((putA kvs k v).map (·.2)) ((putK ks k x).map (·.2)):=by
 have an:∀ {kvs:List (κ × AV)}{ks:List (κ × V)},kvs.map (·.1)=ks.map (·.1)->(kvs.any λ kv=>decide (kv.1=k))=(ks.any λ kv=>decide (kv.1=k)):=by
  intro kvs
  induction kvs with
  | nil=>intro ks e;cases ks with|nil=>rfl|cons a r=>cases e
  | cons p r ih=>
   intro ks e
   cases ks with
   | nil=>cases e
   | cons q t=>
    rw[List.map_cons,List.map_cons,List.cons.injEq]at e
    rw[List.any_cons,List.any_cons,ih e.2,e.1]
 unfold putA putK
 rw[an e]
 by_cases ha:(ks.any λ kv=>decide (kv.1=k))=true
 ·rw[if_pos ha,if_pos ha]
  clear ha an
  induction kvs generalizing ks with
  | nil=>cases ks with|nil=>exact⟨rfl,.nil⟩|cons a r=>cases e
  | cons p r ih=>
   cases ks with
   | nil=>cases e
   | cons q t=>
    rw[List.map_cons,List.map_cons,List.cons.injEq]at e
    rw[List.map_cons,List.map_cons]at h
    obtain⟨y,ys,e2,k1,k2⟩:=h.cons_inv
    rw[List.cons.injEq]at e2
    obtain⟨i1,i2⟩:=ih e.2 (e2.2 ▸ k2)
    simp only[List.map_cons,e.1]
    by_cases hq:q.1=k
    ·rw[if_pos hq,if_pos hq,i1];exact⟨rfl,.cons kv i2⟩
    ·rw[if_neg hq,if_neg hq,i1,e.1];exact⟨rfl,.cons (e2.1 ▸ k1) i2⟩
 ·rw[if_neg ha,if_neg ha,List.map_append,List.map_append,List.map_append,List.map_append,e]
  exact⟨rfl,h.append (.one kv)⟩
end
def keyO:AV->Option Key
 | .int i=>some (.inl i)
 | .str x=>some (.inr x)
 | _=>none
theorem keyO_inv {ρ:List Addr}{H:Hp}{v:AV}{k:Key}{x:V}(h:keyO v=some k)(va:VR T ρ H v x):x=kV k:=by
 cases v<;>try cases h
 ·cases va.int_inv;rfl
 ·cases va.str_inv;rfl
def dKO (s:S)(i:Nat):Option (List (Key × AV)):=match s[i]? with
 | some (.dK xs)=>some xs
 | _=>none
theorem dKO_inv {s:S}{i:Nat}{xs:List (Key × AV)}(h:dKO s i=some xs):s[i]? = some (.dK xs):=by
 unfold dKO at h
 split at h
 ·cases h;assumption
 ·cases h
def opDget:AV->AV->S->R AV
 | .ref i,y,s=>need (dKO s i) λ kvs=>need (keyO y) λ k=>need (valA kvs k) λ v=>.ok v s
 | _,_,_=>.bad
theorem me_dget {o i:Expr}{m n:Ev}(hu:X.A.units+1 < cLine)(ho:PE X o (tE T XE m)) (hi:PE X i (tE T XE n)) (hs:NoSl i:=by exact λ _ _=>rfl):PE X (.Subscript o i pos) (tE T XE (mBin opDget m n)):=
 PE.imp (pe_dget hu ho hi hs) λ σ H Q ⟨ρ,env,s,hs,he,ho⟩=>step hs he ho λ v s1 ρ1 H1 x _ u1 sr1 er1 vr1 ho1=>step sr1 er1 ho1 λ w s2 ρ2 H2 y _ u2 sr2 er2 vr2 ho2=>by
  have vr1:VR T ρ2 H2 v x:=VR.up u2 vr1
  cases v with
  | ref i=>
   obtain⟨kvs,e1,ho2⟩:=ho2.needInv
   obtain⟨k,e2,ho2⟩:=ho2.needInv
   obtain⟨z,e3,ho2⟩:=ho2.needInv
   obtain⟨a,ks,rfl,ea,h1,q1,q2⟩:=sr2.dKAt (dKO_inv e1) vr1
   obtain⟨x',ex,kx⟩:=(val_rel k q1 q2).1 z e3
   exact⟨a,x',rfl,by rw[keyO_inv e2 vr2,<-ex];exact DGet.k h1,ho2.hereV sr2 kx⟩
  | _=>exact ho2.elim
theorem din_of {op:AV->AV->S->R AV}{b:Bool->Bool}(hop:∀ y w s,op y w s=(match w with|.ref i=>need (dKO s i) λ kvs=>need (keyO y) λ k=>.ok (.bl (b (valA kvs k).isSome)) s|_=>.bad)) {m n:Ev}{σ:St}{H:Hp}{Q:VK}(h:tE T XE (mBin op m n) σ H Q) :
  tE T XE m σ H λ y H1=>tE T XE n σ H1 λ x H2=>∃ a o,x=.ref a/\DGet H2 a y o/\Q (.bl (b o.isSome)) H2:=by
 obtain⟨ρ,env,s,hs,he,ho⟩:=h
 refine step hs he ho λ v s1 ρ1 H1 x _ u1 sr1 er1 vr1 ho1=>step sr1 er1 ho1 λ w s2 ρ2 H2 y _ u2 sr2 er2 vr2 ho2=>?_
 rw[hop]at ho2
 have vr2:VR T ρ2 H2 w y:=vr2
 cases w with
 | ref i=>
  obtain⟨kvs,e1,ho2⟩:=ho2.needInv
  obtain⟨k,e2,ho2⟩:=ho2.needInv
  obtain⟨a,ks,rfl,ea,h1,q1,q2⟩:=sr2.dKAt (dKO_inv e1) vr2
  have vk:=keyO_inv e2 (VR.up u2 vr1)
  refine⟨a,valV ks k,rfl,by rw[vk];exact DGet.k h1,?_⟩
  have:(valV ks k).isSome=(valA kvs k).isSome:=by
   cases ev:valA kvs k with
   | none=>rw[(val_rel k q1 q2).2 ev];rfl
   | some z=>obtain⟨x',ex,_⟩:=(val_rel k q1 q2).1 z ev;rw[ex];rfl
  rw[this]
  exact ho2.hereV sr2 vr_bl
 | _=>exact ho2.elim
def putD (v d y:AV)(env:En)(s:S):RS:=match d with
 | .ref i=>match dKO s i,keyO y with
  | some kvs,some k=>if kvs.length < sizeLine then .nx env (s.set i (.dK (putA kvs k v))) else .bad
  | _,_=>.bad
 | _=>.bad
def sDput (d y v:Ev):Ms:=λ env s=>(v env s).bindS λ a s1=>(d env s1).bindS λ b s2=>(y env s2).bindS λ c s3=>putD a b c env s3
theorem ms_dput {o i value:Expr}{pos':Pos}{m n r:Ev}(hu:X.A.units+1 < cLine)(ho:PE X o (tE T XE m)) (hi:PE X i (tE T XE n)) (hv:PE X value (tE T XE r)) (hs:swapsWith value (some (.Subscript o i pos')) pos.line X.env=pure false:=by rfl):PS X (.Assign [.Subscript o i pos'] value pos) (tS T XE (sDput m n r)):=
 PS.imp (ps_dput hu ho hi hv hs) λ D σ H ⟨ρ,env,s,hs,he,ho⟩=>stepS hs he ho λ v s1 ρ1 H1 x _ u1 sr1 er1 vr1 ho1=>stepS sr1 er1 ho1 λ d s2 ρ2 H2 y _ u2 sr2 er2 vr2 ho2=>stepS sr2 er2 ho2 λ c s3 ρ3 H3 z _ u3 sr3 er3 vr3 ho3=>by
  have vr2:VR T ρ3 H3 d y:=VR.up u3 vr2
  have vr1:VR T ρ3 H3 v x:=VR.up (u2.trans u3) vr1
  unfold putD at ho3
  split at ho3
  ·split at ho3
   ·rename_i i kvs k e1 e2
    obtain⟨hl,ho3⟩:=ho3.ifInv
    obtain⟨a,ks,rfl,ea,h1,q1,q2⟩:=sr3.dKAt (dKO_inv e1) vr2
    have hkl:kvs.length=ks.length:=by have:=congrArg List.length q1;simpa using this
    refine⟨a,_,rfl,by rw[keyO_inv e2 vr3];exact DPut.k h1 (by rw[<-hkl];exact hl),?_⟩
    obtain⟨p1,p2⟩:=put_rel k vr1 q1 q2
    have up:Up ρ3 H3 ρ3 (upd H3 a (.dK (putK ks k x))):=sr3.upSet ea h1 (λ _ z=>nomatch z) (λ _ _ z=>nomatch z)
    exact ho3 ρ3 _ σ up (sr3.set ea up ⟨_,upd_same,p1,p2.up up⟩) (er3.up up)
   ·exact ho3.elim
  ·exact ho3.elim
def opGet2 (d y z:AV)(s:S):R AV:=match d with
 | .ref i=>need (dKO s i) λ kvs=>need (keyO y) λ k=>.ok ((valA kvs k).getD z) s
 | _=>.bad
def mGet2 (d y z:Ev):Ev:=λ env s=>(d env s).bind λ a s1=>need (isTy "dict" a s1) λ _=>(y env s1).bind λ b s2=>(z env s2).bind λ c s3=>opGet2 a b c s3
def mD0:Ev:=λ _ s=>.ok (.ref s.length) (s++[.dK []])
theorem me_d0:PE X (.Dict [] [] pos) (tE T XE mD0):=
 PE.imp pe_dnewK λ σ H Q ⟨ρ,env,s,hs,he,ho⟩ p hp=>ho.alloc hs hp ⟨[],upd_same,rfl,.nil⟩
def prs:List (Ev × Ev)->En->S->R (List (AV × AV))
 | [],_,s=>.ok [] s
 | (a,b) :: r,env,s=>(a env s).bind λ v s1=>(b env s1).bind λ w s2=>(prs r env s2).bind λ l s3=>.ok ((v,w) :: l) s3
def keysO:List (AV × AV)->Option (List (Key × AV))
 | []=>some []
 | (a,b) :: r=>(keyO a).bind λ k=>(keysO r).map ((k,b) :: ·)
def mergeA (kvs more:List (Key × AV)):List (Key × AV):=more.foldl (λ acc kv=>putA acc kv.1 kv.2) kvs
def mDisp (l:List (Ev × Ev)):Ev:=λ env s=>(prs l env s).bind λ ps s1=>need (keysO ps) λ kvs=>if kvs.length<=15 then .ok (.ref s1.length) (s1++[.dK (mergeA [] kvs)]) else .bad
def VRp (T:Tx)(ρ:List Addr)(H:Hp)(ps:List (AV × AV)) (xs:List (V × V)):Prop:=VRs T ρ H (ps.map (·.1)) (xs.map (·.1))/\VRs T ρ H (ps.map (·.2)) (xs.map (·.2))
theorem bind_assoc {α β γ:Type}(r:R α)(f:α->S->R β)(g:β->S->R γ):(r.bind f).bind g=r.bind λ a s=>(f a s).bind g:=by cases r<;>rfl
theorem pairs_of {α β:Type}{rl:Rl α β}{Q:β->Hp->Prop}{env:En}{σ:St}:∀ (l:List (Ev × Ev)) {ρ:List Addr}{s:S}{H:Hp}{k:List (AV × AV)->S->R α}{F:List (V × V)->Hp->Prop},SR T ρ s H->ER T ρ H env σ->Out T XE rl ρ H ((prs l env s).bind k) Q->
  (∀ ps s1 ρ1 H1 xs,prs l env s=.ok ps s1->Up ρ H ρ1 H1->SR T ρ1 s1 H1->ER T ρ1 H1 env σ->VRp T ρ1 H1 ps xs->F xs H1)->tPairs (l.map λ p=>(tE T XE p.1,tE T XE p.2)) σ H F
 | [],ρ,s,H,k,F,hs,he,ho,hk=>hk [] s ρ H [] rfl .refl hs he ⟨.nil,.nil⟩
 | (a,b) :: r,ρ,s,H,k,F,hs,he,ho,hk=>by
  have e:(prs ((a,b) :: r) env s).bind k=(a env s).bind λ v s1=>(b env s1).bind λ w s2=>(prs r env s2).bind λ l s3=>k ((v,w) :: l) s3:=by
   show((a env s).bind λ v s1=>(b env s1).bind λ w s2=>(prs r env s2).bind λ l s3=>.ok ((v,w) :: l) s3).bind k=_
   rw[bind_assoc]
   congr 1;funext v s1
   rw[bind_assoc]
   congr 1;funext w s2
   rw[bind_assoc]
   rfl
  rw[e]at ho
  refine step hs he ho λ v s1 ρ1 H1 x q1 u1 sr1 er1 vr1 ho1=>step sr1 er1 ho1 λ w s2 ρ2 H2 y q2 u2 sr2 er2 vr2 ho2=>?_
  refine pairs_of r sr2 er2 ho2 λ ps s3 ρ3 H3 xs q3 u3 sr3 er3 vp=>hk ((v,w) :: ps) s3 ρ3 H3 _ (by have q1:a env s=.ok v s1:=q1;have q2:b env s1=.ok w s2:=q2;show((a env s).bind λ v s1=>(b env s1).bind λ w s2=>(prs r env s2).bind λ l s3=>.ok ((v,w) :: l) s3)=_;rw[q1,bind_ok,q2,bind_ok,q3,bind_ok]) ((u1.trans u2).trans u3) sr3 er3 ⟨?_,?_⟩
  ·exact .cons (VR.up (u2.trans u3) vr1) vp.1
  ·exact .cons (VR.up u3 vr2) vp.2
theorem keysO_inv {ρ:List Addr}{H:Hp}:∀ {ps:List (AV × AV)}{kvs:List (Key × AV)}{xs:List (V × V)},keysO ps=some kvs->VRp T ρ H ps xs->∃ ks:List (Key × V),xs=ks.map (λ kv=>(kV kv.1,kv.2))/\kvs.map (·.1)=ks.map (·.1)/\VRs T ρ H (kvs.map (·.2)) (ks.map (·.2))
 | [],kvs,xs,h,vp=>by
  cases h
  have:=vp.1.nil_inv
  cases xs with
  | nil=>exact⟨[],rfl,rfl,.nil⟩
  | cons a r=>cases this
 | (a,b) :: r,kvs,xs,h,vp=>by
  have h:(keyO a).bind (λ k=>(keysO r).map ((k,b) :: ·))=some kvs:=h
  cases e1:keyO a with
  | none=>rw[e1]at h;cases h
  | some k=>
   cases e2:keysO r with
   | none=>rw[e1,e2]at h;cases h
   | some q=>
    rw[e1,e2]at h
    cases h
    cases xs with
    | nil=>obtain⟨_,_,z,_⟩:=vp.1.cons_inv;cases z
    | cons p xs=>
     obtain⟨x1,y1,z1,k1,k2⟩:=vp.1.cons_inv
     obtain⟨x2,y2,z2,k3,k4⟩:=vp.2.cons_inv
     rw[List.map_cons,List.cons.injEq]at z1 z2
     obtain⟨ks,rfl,q1,q2⟩:=keysO_inv e2 ⟨z1.2 ▸ k2,z2.2 ▸ k4⟩
     refine⟨(k,p.2) :: ks,?_,by rw[List.map_cons,List.map_cons,q1],.cons (z2.1 ▸ k3) q2⟩
     rw[List.map_cons,<-keyO_inv e1 (z1.1 ▸ k1)]
theorem merge_rel {ρ:List Addr}{H:Hp}:∀ {more:List (Key × AV)}{mo:List (Key × V)}{kvs:List (Key × AV)}{ks:List (Key × V)},more.map (·.1)=mo.map (·.1)->VRs T ρ H (more.map (·.2)) (mo.map (·.2))->kvs.map (·.1)=ks.map (·.1)->VRs T ρ H (kvs.map (·.2)) (ks.map (·.2))->
  (mergeA kvs more).map (·.1)=(mergeK ks mo).map (·.1)/\VRs T ρ H ((mergeA kvs more).map (·.2)) ((mergeK ks mo).map (·.2))
 | [],mo,kvs,ks,e,h,e2,h2=>by
  cases mo with
  | nil=>exact⟨e2,h2⟩
  | cons a r=>cases e
 | p :: r,mo,kvs,ks,e,h,e2,h2=>by
  cases mo with
  | nil=>cases e
  | cons q t=>
   rw[List.map_cons,List.map_cons,List.cons.injEq]at e
   rw[List.map_cons,List.map_cons]at h
   obtain⟨y,ys,z,k1,k2⟩:=h.cons_inv
   rw[List.cons.injEq]at z
   obtain⟨p1,p2⟩:=put_rel p.1 (z.1 ▸ k1) e2 h2
   have:=merge_rel (kvs:=putA kvs p.1 p.2) (ks:=putK ks q.1 q.2) e.2 (z.2 ▸ k2) (by rw[<-e.1];exact p1) (by rw[<-e.1];exact p2)
   exact this
theorem me_disp {keys:List (Option Expr)}{values:List Expr}{l:List (Ev × Ev)}(h:PPs X pos keys values (l.map λ p=>(tE T XE p.1,tE T XE p.2))) (hall:keys.all (·.isSome)=true:=by rfl) (hl:keys.length=values.length:=by rfl)(h0:keys≠[]:=by decide)(h15:keys.length<=15:=by decide):PE X (.Dict keys values pos) (tE T XE (mDisp l)):=
 PE.imp (pe_disp h hall hl h0 h15) λ σ H Q ⟨ρ,env,s,hs,he,ho⟩ p hp=>by
  have u0:=hs.upNew (o:=.dK []) hp
  have n0:=hs.out hp
  refine pairs_of l (hs.new hp) (he.up u0) (Out.up u0 ho) λ ps s1 ρ1 H1 xs q0 u1 sr1 er1 vp=>?_
  unfold mDisp at ho
  rw[q0,bind_ok]at ho
  obtain⟨kvs,e1,ho⟩:=ho.needInv
  obtain⟨hl,ho⟩:=ho.ifInv
  obtain⟨ks,rfl,q1,q2⟩:=keysO_inv e1 vp
  have hd:=u1.fr p _ upd_same n0
  have hkl:kvs.length=ks.length:=by have:=congrArg List.length q1;simpa using this
  refine⟨hd.1,ks,rfl,by rw[<-hkl];exact hl,?_⟩
  obtain⟨m1,m2⟩:=merge_rel q1 q2 (kvs:=[]) (ks:=[]) rfl .nil
  have g:Gr ρ1 H1 (ρ1++[p]) (upd H1 p (.dK (mergeK [] ks))):=⟨List.prefix_append _ _,λ b ys e=>by rw[upd_ne (ne_of e hd.1 (by intro z;cases z))];exact e,λ b o v e=>by rw[upd_ne (ne_of e hd.1 (by intro z;cases z))];exact e⟩
  have g1:Gr ρ1 H1 ρ1 (upd H1 p (.dK (mergeK [] ks))):=⟨List.prefix_rfl,g.tups,g.frzs⟩
  have s2:SR T ρ1 s1 (upd H1 p (.dK (mergeK [] ks))):=sr1.up g1 λ a ha=>upd_ne λ z=>hd.2 (z ▸ ha)
  have s3:SR T (ρ1++[p]) (s1++[.dK (mergeA [] kvs)]) (upd H1 p (.dK (mergeK [] ks))):=s2.add hd.2 ⟨_,upd_same,m1,m2.gr g⟩
  have u2:Up ρ H (ρ1++[p]) (upd H1 p (.dK (mergeK [] ks))):=((u0.trans u1).mod hp hd.2).add hp
  exact ho _ _ _ u2 s3 (vr_ref (T:=T) (H:=upd H1 p (.dK (mergeK [] ks))) (by rw[List.getElem?_append_right (by rw[sr1.len];exact Nat.le_refl _),sr1.len,Nat.sub_self];rfl))
theorem mps_nil:PPs X pos [] [] (([]:List (Ev × Ev)).map λ p=>(tE T XE p.1,tE T XE p.2)):=pps_nil
theorem mps_cons {k v:Expr}{ks:List (Option Expr)}{vs:List Expr}{a b:Ev}{l:List (Ev × Ev)}(hk:PE X k (tE T XE a)) (hv:PE X v (tE T XE b)) (hr:PPs X pos ks vs (l.map λ p=>(tE T XE p.1,tE T XE p.2))):PPs X pos (some k :: ks) (v :: vs) (((a,b) :: l).map λ p=>(tE T XE p.1,tE T XE p.2)):=pps_cons hk hv hr
def gSubL (o i:Ev):Mt:=λ v env s=>(o env s).bindS λ a s1=>(i env s1).bindS λ b s2=>match a,b with
 | .ref k,.int j=>match lstO s2 k with
  | some xs=>match ixN xs.length j with
   | some n=>.nx env (s2.set k (.lst (xs.set n v)))
   | none=>.bad
  | none=>.bad
 | _,_=>.bad
theorem mg_subL {o i:Expr}{m n:Ev}(ho:PE X o (tE T XE m)) (hi:PE X i (tE T XE n))
  (ha:∀ v,assign (.Subscript o i pos) X.env v=(do
   let ov <-holding [v] (eval o X.env)
   let iv <-holding [v,ov] (eval i X.env)
   standAt pos
   holding [v,ov,iv] (setItem ov iv v)
   release [v,ov,iv] []):=by intro _;rfl):PG X (.Subscript o i pos) (tT T XE (gSubL m n)):=
 PG.imp (pg_sub ho hi set_list ha) λ x σ H Q ⟨ρ,env,s,v,hs,he,vr,ho⟩=>by
  refine stepS hs he ho λ a s1 ρ1 H1 y _ u1 sr1 er1 vr1 ho1=>stepS sr1 er1 ho1 λ b s2 ρ2 H2 z _ u2 sr2 er2 vr2 ho2=>?_
  have vr1:VR T ρ2 H2 a y:=VR.up u2 vr1
  have vr2:VR T ρ2 H2 b z:=vr2
  have vr:VR T ρ2 H2 v x:=VR.up (u1.trans u2) vr
  split at ho2
  ·rename_i k j
   split at ho2
   ·rename_i xs e1
    split at ho2
    ·rename_i n e2
     obtain⟨p,ws,rfl,ea,h1,k1⟩:=sr2.lstAt (lstO_inv e1) vr1
     cases vr2.int_inv
     have up:Up ρ2 H2 ρ2 (upd H2 p (.lst (ws.set n x))):=sr2.upSet ea h1 (λ _ z=>nomatch z) (λ _ _ z=>nomatch z)
     exact⟨p,ws,_,n,rfl,rfl,h1,by rw[<-k1.length];exact e2,ho2 ρ2 _ σ up (sr2.set ea up (OR.lst upd_same ((k1.set n vr).up up))) (er2.up up)⟩
    ·exact ho2.elim
   ·exact ho2.elim
  ·exact ho2.elim
theorem on_subL {o i:Ev}:GoesOn (gSubL o i):=λ v env s=>by
 unfold gSubL
 cases o env s with
 | bad=>exact .inr (.inr rfl)
 | ex c s1=>exact .inr (.inl ⟨_,_,rfl⟩)
 | ok a s1=>
  simp only[bindS_ok]
  cases i env s1 with
  | bad=>exact .inr (.inr rfl)
  | ex c s1=>exact .inr (.inl ⟨_,_,rfl⟩)
  | ok b s2=>
   simp only[bindS_ok]
   split
   ·split
    ·split
     ·exact .inl ⟨_,_,rfl⟩
     ·exact .inr (.inr rfl)
    ·exact .inr (.inr rfl)
   ·exact .inr (.inr rfl)
def flatA:AV->Bool
 | .non=>true
 | .bl _=>true
 | .int _=>true
 | .str _=>true
 | _=>false
end
end Mm
namespace Mm
open PySem L2
section
variable {T:Tx}{XE:XEt}{X:Cx}{pos:Pos}
structure Fk (P:Program)(w:World)(T:Tx)(mg:Str->Option Value)(base:Heap)(nm:Str)(n k:Nat)(Fn:List AV->S->R AV):Prop where
 ex:∃ f fd ps,FnOk P w T.K mg base CX0 k f fd ps (spOf T n Fn)/\Binds T.K fd ps []/\mg nm=some (.ref f)/\PySem.W.keepIn T.K (.ref f)=true
theorem me_F {k n:Nat}{Fn:List AV->S->R AV}{x:Str}{p:Pos}{e:Expr}{es:List Expr}{r:Evs}(h:Fk X.prog X.w T X.mg X.base x n k Fn)(hr:Room k X.A)(ha:PA X (e :: es) (tP T XE0 r)) (hK:X.K=T.K:=by rfl)(hg:Gl X x:=by rfl)(hdb:(x == ("__debug__":Str))=false:=by decide) (he:starEach (e :: es) X.env=(false,eval e X.env) :: starEach es X.env:=by rfl) (hpl:(backTo pos (starEach es X.env)).any (·.1)=false:=by rfl) :
  PE X (.Call (.Name x p) (e :: es) [] pos) (tE T XE0 (mCall n Fn r)):=by
 obtain⟨f,fd,ps,G,hb,hm,hk⟩:=h.ex
 exact me_call hK G hr hm hk hb ha hg hdb he hpl
structure Kst (T:Tx)(mg:Str->Option Value)(x:Str)(a:AV):Prop where
 ex:∃ v u,mg x=some u/\RelV v u/\∀ ρ H,VR T ρ H a v
theorem me_kst {x:Str}{a:AV}(h:Kst T X.mg x a)(hg:Gl X x:=by rfl)(hd:(x == ("__debug__":Str))=false:=by decide):PE X (.Name x pos) (tE T XE (mc a)):=by
 obtain⟨v,u,h1,h2,h3⟩:=h.ex
 exact me_glob hg h1 h2 h3 hd
theorem hu30 {k:Nat}{A:Around}(r:Room k A):A.units+30 < cLine:=by have:=r.un;omega
noncomputable def gcB (m:Eb):Eb:=λ env s=>(m env s).bind λ v s1=>open Classical in if s1.take s.length=s then .ok v s else .bad
theorem pt_gc {e:Expr}{m:Eb}(h:PT X e (tC' T XE m)):PT X e (tC' T XE (gcB m)):=
 PT.imp h λ σ H Q ⟨ρ,env,s,hs,he,ho⟩=>by
  refine⟨ρ,env,s,hs,he,?_⟩
  unfold gcB at ho
  cases e:m env s with
  | bad=>rw[e]at ho;exact ho
  | ex c s1=>rw[e]at ho;exact ho
  | ok v s1=>
   rw[e]at ho
   obtain⟨e1,ho⟩:=ho.ifInv
   intro ρ1 H1 x u sr vr
   have:=sr.cut u.pre hs.len (by rw[e1];exact hs.closed)
   rw[e1]at this
   exact ho ρ H1 x u.cut this vr
def rMG {α:Type}(T:Tx)(XE:XEt)(rl:Rl α V)(op:AV->List AV->S->R α):V->List V->Hp->VK->Prop:=λ x xs H Q=>∃ ρ v vs s,SR T ρ s H/\VR T ρ H v x/\VRs T ρ H vs xs/\Out T XE rl ρ H (op v vs s) Q
def gMet {α:Type}(n:String)(op:AV->List AV->S->R α)(o:Ev)(r:Evs):En->S->R α:=λ env s=>(o env s).bind λ v s1=>need (isTy n v s1) λ _=>(r env s1).bind λ vs s2=>op v vs s2
theorem mg_met {α:Type}{rl:Rl α V}{n id:String}{name:Str}{apos cpos:Pos}{o e:Expr}{es:List Expr}{op:AV->List AV->S->R α}{m:Ev}{r:Evs}(hK:X.K=T.K)(pa:PlainAttrs n)(slot:Slot n name id)(hty:typeOf (.builtin id)=pure (.type "method_descriptor")) (hm:MtR X id (rMG T XE rl op)) (ho:PE X o (tE T XE m)) (ha:PA X (e :: es) (tP T XE r))
  (hbase:attributeBase o name X.env (eval o X.env)=eval o X.env:=by rfl)
  (hfew:((backTo cpos (starEach (e :: es) X.env)).all (λ x=>!x.1) && (backToKw cpos (keywordEach [] X.env)).all (λ x=>x.1.isSome)
   && decide ((e :: es).length+([]:List Keyword).length+(if ([]:List Keyword).isEmpty then 0 else 1) < 30))=true:=by rfl)
  (hline:(apos.endLine == cpos.line)=true:=by rfl) (hs:starEach (e :: es) X.env=(false,eval e X.env) :: starEach es X.env:=by rfl) (hplain:(backTo cpos (starEach es X.env)).any (·.1)=false:=by rfl) :
  PE X (.Call (.Attribute o name apos) (e :: es) [] cpos) (tG T XE rl (gMet n op m r)):=
 PE.imp (pe_bmK hK pa slot hty hm ho ha hbase hfew hline hs hplain) λ σ H Q ⟨ρ,env,s,hs,he,ho⟩=>by
  refine step hs he ho λ v s1 ρ1 H1 x _ u1 sr1 er1 vr1 ho1=>?_
  obtain⟨_,e,ho1⟩:=ho1.needInv
  exact⟨isTy_inv e sr1 vr1,step sr1 er1 ho1 λ vs s2 ρ2 H2 xs _ u2 sr2 er2 vr2 ho2=>⟨ρ2,v,vs,s2,sr2,VR.up u2 vr1,vr2,ho2⟩⟩
open PySem.Builtin.Str in
def opSplit:AV->List AV->S->R (List AV)
 | .str t,[.str sep],s=>if (decide (t.length < sep.length) || decide (strKind t < strKind sep))=false/\(sep.length == 0)=false/\(occurrences t sep 0 t.length (t.length+1)).isEmpty=false/\t.length<=1000/\(partsBetween t (occurrences t sep 0 t.length (t.length+1)) sep.length).length<=1000
   then .ok ((partsBetween t (occurrences t sep 0 t.length (t.length+1)) sep.length).map AV.str) s else .bad
 | _,_,_=>.bad
theorem dSplit:MtR X "str.split" (rMG T XE (rL T) opSplit):=by
 intro pins s σ H x xs v us Q I rx rv ⟨ρ,a,vs,st,sr,va,vb,ho⟩
 unfold opSplit at ho
 split at ho
 ·obtain⟨⟨c1,c2,c3,c4,c5⟩,ho⟩:=ho.ifInv
  cases va.str_inv
  obtain⟨y,rfl,k2⟩:=vb.one_inv
  cases k2.str_inv
  exact mt_split pins s σ H _ _ v us Q I rx rv ⟨_,_,rfl,rfl,c1,c2,c3,c4,c5,λ l hl=>ho.lst sr hl (VRs.map (λ a=>vr_str) _)⟩
 ·exact ho.elim
def zipA (xs ys:List AV):List AV:=(xs.zip ys).map λ p=>AV.tup [p.1,p.2]
def seqK (c:Bool)(v:AV)(s:S):Option (List AV × Gd):=match v with
 | .tup xs=>if c=true then some (xs,[]) else none
 | .sq xs=>if c=true then none else some (xs,[])
 | .ref i=>if c=true then none else (lstO s i).map λ xs=>(xs,[(i,xs)])
 | _=>none
theorem seqK_inv {c:Bool}{ρ:List Addr}{H:Hp}{s:S}{v:AV}{xs:List AV}{gs:Gd}{x:V}(h:seqK c v s=some (xs,gs)) (sr:SR T ρ s H)(va:VR T ρ H v x):∃ a,x=.ref a/\(∃ vs,SqK c T.K H a vs)/\∀ ρ' s' H',Up ρ H ρ' H'->SR T ρ' s' H'->gOk gs s'->∃ vs,SqK c T.K H' a vs/\VRs T ρ' H' xs vs:=by
 cases v with
 | tup ys=>
  have h:(if c=true then some (ys,[]) else none)=some (xs,gs):=h
  split at h
  ·rename_i hc
   cases h
   obtain⟨a,vs,rfl,h1,k⟩:=va.tup_inv
   refine⟨a,rfl,⟨vs,by unfold SqK;rw[if_pos hc];exact h1⟩,λ ρ' s' H' u sr' _=>⟨vs,by unfold SqK;rw[if_pos hc];exact u.sqT h1,k.up u⟩⟩
  ·cases h
 | sq ys=>
  have h:(if c=true then none else some (ys,[]))=some (xs,gs):=h
  split at h
  ·cases h
  ·rename_i hc
   cases h
   obtain⟨a,vs,rfl,h1,k⟩:=va.sq_inv
   refine⟨a,rfl,⟨vs,by unfold SqK;rw[if_neg hc];exact h1.sqL⟩,λ ρ' s' H' u sr' _=>⟨vs,by unfold SqK;rw[if_neg hc];exact(u.sqF h1).sqL,k.up u⟩⟩
 | ref i=>
  have h:(if c=true then none else (lstO s i).map λ xs=>(xs,[(i,xs)]))=some (xs,gs):=h
  split at h
  ·cases h
  ·rename_i hc
   cases e:lstO s i with
   | none=>rw[e]at h;cases h
   | some ys=>
    rw[e]at h
    cases h
    obtain⟨a,vs,rfl,ea,h1,k⟩:=sr.lstAt (lstO_inv e) va
    refine⟨a,rfl,⟨vs,by unfold SqK;rw[if_neg hc];exact SqL.of h1⟩,λ ρ' s' H' u sr' g=>?_⟩
    obtain⟨b,ws,eb,_,h2,k2⟩:=sr'.lstAt (lstO_inv ((gOk_one i _ s').mp g)) (VR.up u va)
    cases eb
    exact⟨ws,by unfold SqK;rw[if_neg hc];exact SqL.of h2,k2⟩
 | _=>cases h
theorem gOk_app {g h:Gd}{s:S}(k:gOk (g++h) s):gOk g s/\gOk h s:=⟨λ p hp=>k p (List.mem_append_left _ hp),λ p hp=>k p (List.mem_append_right _ hp)⟩
end
end Mm
namespace Mm
open PySem PySem.W PyProof.Rows
def krun {α:Type}(lt:Nat->Nat->Bool):KasT α->α
 | .ret a=>a
 | .ask i j k=>krun lt (k (lt i j))
theorem krun_bind {α β:Type}(lt:Nat->Nat->Bool)(f:α->KasT β):∀ t:KasT α,krun lt (t.bind f)=krun lt (f (krun lt t))
 | .ret a=>rfl
 | .ask i j k=>krun_bind lt f (k (lt i j))
section
variable {O:KeyOrd}{key:Nat->O.α}
def kat (key:Nat->O.α)(p:Array Nat)(i:Nat):O.α:=key (p.getD i 0)
abbrev ltK (O:KeyOrd)(key:Nat->O.α):Nat->Nat->Bool:=λ i j=>O.blt (key i) (key j)
def Srt (key:Nat->O.α)(p:Array Nat)(k:Nat):Prop:=∀ i j,i<=j->j < k->O.kle (kat key p i) (kat key p j)
theorem getD_of {p q:Array Nat}{i j:Nat}(h:p[i]? = q[j]?):p.getD i 0=q.getD j 0:=by
 rw[Array.getD_eq_getD_getElem?,Array.getD_eq_getD_getElem?,h]
theorem place_ok {p:Array Nat}{k:Nat}(hs:Srt key p k):∀ (f l r:Nat),l<=r->r<=k->r - l<=f->(∀ i,i < l->O.kle (kat key p i) (kat key p k))->(∀ i,r<=i->i < k->O.klt (kat key p k) (kat key p i))->
  let m:=krun (ltK O key) (kas_place p k f l r)
  m<=k/\(∀ i,i < m->O.kle (kat key p i) (kat key p k))/\∀ i,m<=i->i < k->O.klt (kat key p k) (kat key p i)
 | 0,l,r,h1,h2,h3,h4,h5=>⟨(by show l<=k;omega),h4,λ i h6 h7=>h5 i (by have h6:l<=i:=h6;omega) h7⟩
 | f+1,l,r,h1,h2,h3,h4,h5=>by
  by_cases hl:l ≥ r
  ·have e:krun (ltK O key) (kas_place p k (f+1) l r)=l:=by
    show krun (ltK O key) (if l ≥ r then .ret l else _)=l
    rw[if_pos hl];rfl
   rw[e]
   exact⟨by omega,h4,λ i h6 h7=>h5 i (by omega) h7⟩
  ·by_cases c:ltK O key (p.getD k 0) (p.getD ((l+r) / 2) 0)=true
   ·have e:krun (ltK O key) (kas_place p k (f+1) l r)=krun (ltK O key) (kas_place p k f l ((l+r) / 2)):=by
     show krun (ltK O key) (if l ≥ r then .ret l else .ask (p.getD k 0) (p.getD ((l+r) / 2) 0) λ c=>if c=true then kas_place p k f l ((l+r) / 2) else kas_place p k f ((l+r) / 2+1) r)=_
     rw[if_neg hl]
     show krun (ltK O key) (if ltK O key (p.getD k 0) (p.getD ((l+r) / 2) 0)=true then kas_place p k f l ((l+r) / 2) else kas_place p k f ((l+r) / 2+1) r)=_
     rw[if_pos c]
    rw[e]
    exact place_ok hs f l ((l+r) / 2) (by omega) (by omega) (by omega) h4 λ i h6 h7=>KeyOrd.klt_of_klt_of_kle (O:=O) c (hs _ i h6 h7)
   ·have e:krun (ltK O key) (kas_place p k (f+1) l r)=krun (ltK O key) (kas_place p k f ((l+r) / 2+1) r):=by
     show krun (ltK O key) (if l ≥ r then .ret l else .ask (p.getD k 0) (p.getD ((l+r) / 2) 0) λ c=>if c=true then kas_place p k f l ((l+r) / 2) else kas_place p k f ((l+r) / 2+1) r)=_
     rw[if_neg hl]
     show krun (ltK O key) (if ltK O key (p.getD k 0) (p.getD ((l+r) / 2) 0)=true then kas_place p k f l ((l+r) / 2) else kas_place p k f ((l+r) / 2+1) r)=_
     rw[if_neg c]
    rw[e]
    exact place_ok hs f ((l+r) / 2+1) r (by omega) h2 (by omega) (λ i hi=>KeyOrd.kle_trans (hs i ((l+r) / 2) (by omega) (by omega)) (KeyOrd.kle_of_not_klt c)) h5
theorem kat_bub {p:Array Nat}{k l:Nat}(hk:k < p.size)(hl:l<=k)(i:Nat):kat key (bubble p k (k - l)) i=if i=l then kat key p k else if l < i/\i<=k then kat key p (i - 1) else kat key p i:=by
 have h:=getElem?_bubble (xs:=p) hk (k - l) (by omega) i
 rw[show k - (k - l)=l by omega]at h
 by_cases hi:i=l
 ·rw[if_pos hi]at h ⊢;unfold kat;rw[getD_of h]
 ·rw[if_neg hi]at h ⊢
  by_cases h2:l < i/\i<=k
  ·rw[if_pos h2]at h ⊢;unfold kat;rw[getD_of h]
  ·rw[if_neg h2]at h ⊢;unfold kat;rw[getD_of h]
theorem bin_ok:∀ (f:Nat)(p:Array Nat)(k:Nat),k+f<=p.size->Srt key p k->
  let r:=krun (ltK O key) (kas_bin f p k)
  Srt key r (k+f)/\r.size=p.size/\r.Perm p
 | 0,p,k,h1,h=>⟨h,rfl,Array.Perm.refl _⟩
 | f+1,p,k,h1,h=>by
  obtain⟨b1,b2,b3⟩:=place_ok (key:=key) h k 0 k (Nat.zero_le _) (Nat.le_refl _) (by omega) (λ i hi=>by omega) (λ i h2 h3=>by omega)
  have e:krun (ltK O key) (kas_bin (f+1) p k)=krun (ltK O key) (kas_bin f (bubble p k (k - krun (ltK O key) (kas_place p k k 0 k))) (k+1)):=by
   show krun (ltK O key) ((kas_place p k k 0 k).bind λ l=>kas_bin f (bubble p k (k - l)) (k+1))=_
   rw[krun_bind]
  rw[e]
  generalize krun (ltK O key) (kas_place p k k 0 k)=l at *
  have sz:(bubble p k (k - l)).size=p.size:=bubble_size _ _ _
  have kb:∀ i,kat key (bubble p k (k - l)) i=if i=l then kat key p k else if l < i/\i<=k then kat key p (i - 1) else kat key p i:=kat_bub (by omega) b1
  have s1:Srt key (bubble p k (k - l)) (k+1):=λ i j h2 h3=>by
   rw[kb,kb]
   by_cases hi:i=l
   ·rw[if_pos hi]
    by_cases hj:j=l
    ·rw[if_pos hj];exact KeyOrd.kle_refl _
    ·rw[if_neg hj,if_pos (by omega)]
     exact KeyOrd.kle_of_klt (b3 (j - 1) (by omega) (by omega))
   ·rw[if_neg hi]
    by_cases hi2:l < i/\i<=k
    ·rw[if_pos hi2,if_neg (by omega),if_pos (by omega)]
     exact h _ _ (by omega) (by omega)
    ·rw[if_neg hi2]
     by_cases hj:j=l
     ·rw[if_pos hj];exact b2 i (by omega)
     ·rw[if_neg hj]
      by_cases hj2:l < j/\j<=k
      ·rw[if_pos hj2];exact h _ _ (by omega) (by omega)
      ·rw[if_neg hj2];exact h _ _ h2 (by omega)
  obtain⟨c1,c2,c3⟩:=bin_ok f (bubble p k (k - l)) (k+1) (by rw[sz];omega) s1
  exact⟨by rw[show k+(f+1)=k+1+f by omega];exact c1,by rw[c2,sz],c3.trans (bubble_perm _ _ _)⟩
end
end Mm
namespace Mm
open PySem PySem.W PyProof.Rows
section
variable {prog:Program}{w:World}{A:Around}{E:Value->Shared->Prop}{s:Shared}{a:Addr}{vs:List Value}
end
end Mm
namespace L2
open PySem PySem.Spec PyProof.Rows
theorem ObjOk.there2 {P:Program}{w:World}{H:Hp}{h:Heap}{a:Addr}{o:HO}(x:ObjOk P w H h a o):∃ u,h.get? a=some u:=by
 cases o with
 | lst xs=>obtain⟨_,_,_,_,e⟩:=x;exact⟨_,e⟩
 | tup xs=>obtain⟨_,_,_,⟨_,e,_⟩⟩:=x;exact⟨_,e⟩
 | dK kvs=>obtain⟨_,_,_,_,o,_,_,e,_⟩:=x;exact⟨_,e⟩
 | dT kvs=>obtain⟨_,_,_,_,o,_,_,e,_⟩:=x;exact⟨_,e⟩
 | set S n=>obtain⟨o,_,_,_,e,_⟩:=x;exact⟨_,e⟩
 | ins C dx fs=>obtain⟨_,_,_,e,_⟩:=x;exact⟨_,e⟩
 | own y=>obtain⟨_,e⟩:=x;exact⟨_,e⟩
 | xd fs=>obtain⟨_,⟨_,_,_,e,_⟩,_⟩:=x;exact⟨_,e⟩
 | rng lo hi=>obtain⟨_,_,_,e⟩:=x;exact⟨_,e⟩
 | frz ob u=>obtain⟨e,_⟩:=x;exact⟨_,e⟩
 | tbl ps=>exact⟨_,show h.get? a=some _ from x⟩
 | met f y=>exact⟨_,show h.get? a=some _ from x⟩
 | ext φ=>obtain⟨_,⟨_,e⟩,_⟩:=x;exact⟨_,e⟩
theorem Inv.grown {X:Cx}{pins:List (Addr × Obj)}{σ:St}{H H':Hp}{s:Shared}{h':Heap}{t':Nat}(I:Inv X pins σ H s)(k:∀ b u,s.heap.get? b=some u->h'.get? b=some u)(e:∀ b u,s.heap.get? b=some u->H' b=H b)
  (new:∀ b o,s.heap.get? b=none->H' b=some o->ObjOk X.prog X.w H' h' b o):Inv X pins σ H' { s with heap:=h',toks:=t' }:=by
 have old:∀ b o,H b=some o->H' b=some o:=λ b o z=>by
  obtain⟨u,hu⟩:=(I.hok b o z).there2
  rw[e b u hu];exact z
 refine I.un ⟨λ b u q _ _ _=>k b u q,λ b u q _ _ _=>⟨u.slots,k b u q⟩,λ b u q n _=>by rw[e b u q];exact n,λ b u q _=>⟨u,k b u q⟩,λ b xs q=>old b _ q,λ b u xs q=>old b _ q,λ b ps q=>⟨#[],by rw[old b _ q];simp⟩⟩ λ b o z=>?_
 cases hb:s.heap.get? b with
 | some u=>
  rw[e b u hb]at z
  exact(I.hok b o z).stay (λ c u _ q=>k c u q) (λ c q=>old c _ q) λ c xs q=>old c _ q
 | none=>exact new b o hb z
def leS (a b:Str):Bool:=!decide (b.cps.toList < a.cps.toList)
def insS (a:Str):List Str->List Str
 | []=>[a]
 | b :: r=>if leS a b=true then a :: b :: r else b :: insS a r
def sortS:List Str->List Str
 | []=>[]
 | a :: r=>insS a (sortS r)
theorem insS_perm (a:Str):∀ l,(insS a l).Perm (a :: l)
 | []=>.refl _
 | b :: r=>by
  unfold insS
  split
  ·exact .refl _
  ·exact((insS_perm a r).cons b).trans (.swap a b r)
theorem sortS_perm:∀ l,(sortS l).Perm l
 | []=>.refl _
 | a :: r=>(insS_perm a (sortS r)).trans ((sortS_perm r).cons a)
abbrev oS:KeyOrd:=strKind.toKeyOrd
abbrev cpS (a:Str):oS.α:=a.cps.toList
theorem leS_kle {a b:Str}:leS a b=true ↔ oS.kle (cpS a) (cpS b):=by
 unfold leS KeyOrd.kle
 show(!decide (b.cps.toList < a.cps.toList))=true ↔ decide (b.cps.toList < a.cps.toList)=false
 simp
theorem leS_total (a b:Str)(h:leS a b≠true):leS b a=true:=by
 rw[leS_kle]
 refine KeyOrd.kle_of_not_klt λ z=>?_
 exact h (leS_kle.mpr (KeyOrd.kle_of_klt z))
theorem leS_trans {a b c:Str}(h:leS a b=true)(k:leS b c=true):leS a c=true:=by
 rw[leS_kle]at *
 exact KeyOrd.kle_trans h k
theorem leS_anti {a b:Str}(h:leS a b=true)(k:leS b a=true):a=b:=by
 rw[leS_kle]at *
 have e:a.cps.toList=b.cps.toList:=KeyOrd.kle_antisymm h k
 cases a with|mk x=>cases b with|mk y=>exact congrArg Str.mk (Array.toList_inj.mp e)
theorem leS_refl (a:Str):leS a a=true:=leS_kle.mpr (KeyOrd.kle_refl _)
theorem insS_sorted (a:Str):∀ {l:List Str},l.Pairwise (λ x y=>leS x y=true)->(insS a l).Pairwise (λ x y=>leS x y=true)
 | [],_=>List.pairwise_singleton _ _
 | b :: r,h=>by
  unfold insS
  split
  ·rename_i hb
   refine List.pairwise_cons.mpr ⟨λ x hx=>?_,h⟩
   rcases List.mem_cons.mp hx with rfl|hx
   ·exact hb
   ·exact leS_trans hb ((List.pairwise_cons.mp h).1 x hx)
  ·rename_i hb
   refine List.pairwise_cons.mpr ⟨λ x hx=>?_,insS_sorted a (List.pairwise_cons.mp h).2⟩
   rcases List.mem_cons.mp ((insS_perm a r).mem_iff.mp hx) with rfl|hx
   ·exact leS_total _ _ hb
   ·exact(List.pairwise_cons.mp h).1 x hx
theorem sortS_sorted:∀ l,(sortS l).Pairwise (λ x y=>leS x y=true)
 | []=>List.Pairwise.nil
 | a :: r=>insS_sorted a (sortS_sorted r)
theorem sorted_uniq {α:Type}{le:α->α->Bool}(anti:∀ a b,le a b=true->le b a=true->a=b):∀ {l q:List α},l.Perm q->l.Pairwise (λ x y=>le x y=true)->q.Pairwise (λ x y=>le x y=true)->l=q
 | [],q,p,_,_=>(List.nil_perm.mp p).symm
 | a :: r,q,p,h,k=>by
  cases q with
  | nil=>exact absurd (p.length_eq) (by simp)
  | cons b t=>
   have hab:a=b:=by
    rcases List.mem_cons.mp (p.mem_iff.mp List.mem_cons_self) with e|ha
    ·exact e
    ·rcases List.mem_cons.mp (p.mem_iff.mpr List.mem_cons_self) with e|hb
     ·exact e.symm
     ·exact anti _ _ ((List.pairwise_cons.mp h).1 b hb) ((List.pairwise_cons.mp k).1 a ha)
   subst hab
   rw[sorted_uniq anti p.cons_inv (List.pairwise_cons.mp h).2 (List.pairwise_cons.mp k).2]
theorem sortS_uniq {l q:List Str}(p:l.Perm q)(h:l.Pairwise (λ x y=>leS x y=true)):l=sortS q:=
 sorted_uniq (λ _ _=>leS_anti) (p.trans (sortS_perm q).symm) h (sortS_sorted q)
theorem sortedS_pair:∀ {l:List Str},sortedS l=true->l.Pairwise (λ x y=>leS x y=true)
 | [],_=>.nil
 | [a],_=>List.pairwise_singleton _ _
 | a :: b :: r,h=>by
  have h:(!ltCps b.cps.toList a.cps.toList && risingS b r)=true:=h
  rw[Bool.and_eq_true]at h
  have ih:(b :: r).Pairwise (λ x y=>leS x y=true):=sortedS_pair h.2
  have hab:leS a b=true:=by
   have:=h.1
   rw[ltCps_eq]at this
   exact this
  refine List.pairwise_cons.mpr ⟨λ x hx=>?_,ih⟩
  rcases List.mem_cons.mp hx with rfl|hx
  ·exact hab
  ·exact leS_trans hab ((List.pairwise_cons.mp ih).1 x hx)
end L2
namespace Mm
open PySem PySem.W PyProof.Rows
section
variable {prog:Program}{w:World}{A:Around}{E:Value->Shared->Prop}{s:Shared}{a:Addr}{vs:List Value}
end
end Mm
namespace L2
open PySem PySem.Spec PyProof.Rows
end L2
namespace Mm
open PySem L2
section
variable {T:Tx}{XE:XEt}{X:Cx}{pos:Pos}
end
end Mm
namespace Ro
open PySem L2 Mm
def fuel1 (env:En):Nat:=match (env[(1:Nat)]?:Option (Option AV)) with
 | some (some (.int i))=>i.natAbs+1
 | _=>0
def fuelL (env:En):Nat:=match (env[(4:Nat)]?:Option (Option AV)) with
 | some (some (.int i))=>i.natAbs+1
 | _=>0
def k_NOTHING:AV:=.tup [.int 0,.int 1]
def k_ONE:AV:=.tup [.int 1,.int 1]
noncomputable def b_greatest_divisor:Ms:=
 (sSeq (sPar 0 1 (pCons (mOp opAbs (pCons (mv 0) pNil)) (pCons (mOp opAbs (pCons (mv 1) pNil)) pNil)))
 (sSeq (sWhl (λ env _=>fuel1 env) (cB (mBin opNe (mv 1) (mc (.int 0)))) (sPar 0 1 (pCons (mv 1) (pCons (mBin opMod (mv 0) (mv 1)) pNil))))
 (sRet (mv 0))))
noncomputable def f_greatest_divisor:List AV->S->R AV:=fnR 2 b_greatest_divisor
noncomputable def b_plus:Ms:=
 (sSeq (sAsg (mv 0) (gT 2 (gCons' (gN 5) (gCons' (gN 6) gNil'))))
 (sSeq (sAsg (mv 1) (gT 2 (gCons' (gN 7) (gCons' (gN 8) gNil'))))
 (sSeq (sSet 2 (mCall 2 f_greatest_divisor (pCons (mv 6) (pCons (mv 8) pNil))))
 (sSeq (sSet 3 (mBin opAdd (mBin opMul (mv 5) (mBin opFdiv (mv 8) (mv 2))) (mBin opMul (mv 7) (mBin opFdiv (mv 6) (mv 2)))))
 (sSeq (sSet 4 (mCall 2 f_greatest_divisor (pCons (mv 3) (pCons (mv 2) pNil))))
 (sRet (mTup (pCons (mBin opFdiv (mv 3) (mv 4)) (pCons (mBin opMul (mBin opFdiv (mv 6) (mv 2)) (mBin opFdiv (mv 8) (mv 4))) pNil)))))))))
noncomputable def f_plus:List AV->S->R AV:=fnR 9 b_plus
noncomputable def b_sum_of:Ms:=
 (sSeq (sSet 1 (mc k_NOTHING))
 (sSeq (sFor (srcV' (mv 0)) (gN 2) (sSet 1 (mCall 2 f_plus (pCons (mv 1) (pCons (mv 2) pNil)))))
 (sRet (mv 1))))
noncomputable def f_sum_of:List AV->S->R AV:=fnR 3 b_sum_of
noncomputable def b_taken_from:Ms:=
 (sRet (mCall 2 f_plus (pCons (mv 1) (pCons (mTup (pCons (mUn opNeg (mBin opIx (mv 0) (mc (.int 0)))) (pCons (mBin opIx (mv 0) (mc (.int 1))) pNil))) pNil))))
noncomputable def f_taken_from:List AV->S->R AV:=fnR 2 b_taken_from
noncomputable def b__law_begin:Ms:=
 (sSeq (sSet 1 (mNew (gOp qList (lIts (mSl (mv 0) oN (oS (mc (.int 63))))))))
 (sSeq (sIf (gcB (cB (mBin opEq (mv 1) (mNew (lLst pNil))))) (sSet 1 (mNew (lLst (pCons (mc (.int 7)) pNil)))) sSkip)
 (sRet (mDisp [((mc (.str "cells")),(mv 1)),((mc (.str "turn")),(mc (.int 0)))]))))
noncomputable def f__law_begin:List AV->S->R AV:=fnR 2 b__law_begin
noncomputable def b__law_take:Ms:=
 (sSeq (sSet 2 (mBin opAdd (mBin opDget (mv 0) (mc (.str "turn"))) (mc (.int 1))))
 (sSeq (sDput (mv 0) (mc (.str "turn")) (mv 2))
 (sSeq (sSet 3 (mBin opMod (mv 2) (mOp opLen (pCons (mBin opDget (mv 0) (mc (.str "cells"))) pNil))))
 (sSeq (sSet 4 (mBin opIx (mBin opDget (mv 0) (mc (.str "cells"))) (mv 3)))
 (sSeq (sIf (cB (mBin opGe (mv 4) (mBin opPow (mc (.int 10)) (mc (.int 18))))) (sSeq (sAsg (mOp opDivmod (pCons (mv 4) (pCons (mv 1) pNil))) (gT 2 (gCons' (gSubL (mBin opDget (mv 0) (mc (.str "cells"))) (mv 3)) (gCons' (gN 6) gNil'))))
 (sRet (mv 6))) sSkip)
 (sSeq (sSet 5 (mBin opMod (mBin opMul (mBin opAdd (mBin opAdd (mBin opMod (mv 4) (mc (.int 2147483629))) (mBin opMul (mBin opMul (mv 2) (mv 2)) (mc (.int 7919)))) (mc (.int 11))) (mc (.int 48271))) (mc (.int 2147483647))))
 (sSeq (sSet 5 (mBin opMod (mBin opMul (mv 5) (mv 5)) (mc (.int 2147483587))))
 (sRet (mBin opMod (mBin opFdiv (mBin opMod (mBin opMul (mBin opAdd (mv 5) (mBin opMul (mv 2) (mc (.int 104729)))) (mc (.int 39373))) (mc (.int 2147483629))) (mc (.int 64))) (mv 1))))))))))
noncomputable def f__law_take:List AV->S->R AV:=fnR 7 b__law_take
noncomputable def b__law_lowest:Ms:=
 (sSeq (sPar 3 4 (pCons (mOp opAbs (pCons (mv 0) pNil)) (pCons (mOp opAbs (pCons (mv 1) pNil)) pNil)))
 (sSeq (sWhl (λ env _=>fuelL env) (cB (mBin opGt (mv 4) (mc (.int 0)))) (sPar 3 4 (pCons (mv 4) (pCons (mBin opMod (mv 3) (mv 4)) pNil))))
 (sSeq (sSet 2 (mIf (cB (mBin opLt (mv 1) (mc (.int 0)))) (mUn opNeg (mc (.int 1))) (mc (.int 1))))
 (sRet (mTup (pCons (mBin opFdiv (mBin opMul (mv 2) (mv 0)) (mv 3)) (pCons (mBin opFdiv (mBin opMul (mv 2) (mv 1)) (mv 3)) pNil)))))))
noncomputable def f__law_lowest:List AV->S->R AV:=fnR 5 b__law_lowest
noncomputable def b__law_sum:Ms:=
 (sSeq (sAsg (mTup (pCons (mc (.int 0)) (pCons (mc (.int 1)) pNil))) (gT 2 (gCons' (gN 1) (gCons' (gN 2) gNil'))))
 (sSeq (sFor (srcV' (mv 0)) (gT 2 (gCons' (gN 3) (gCons' (gN 4) gNil'))) (sAsg (mCall 2 f__law_lowest (pCons (mBin opAdd (mBin opMul (mv 1) (mv 4)) (mBin opMul (mv 3) (mv 2))) (pCons (mBin opMul (mv 2) (mv 4)) pNil))) (gT 2 (gCons' (gN 1) (gCons' (gN 2) gNil')))))
 (sRet (mTup (pCons (mv 1) (pCons (mv 2) pNil))))))
noncomputable def f__law_sum:List AV->S->R AV:=fnR 5 b__law_sum
noncomputable def b__law_times:Ms:=
 (sRet (mCall 2 f__law_lowest (pCons (mBin opMul (mBin opIx (mv 0) (mc (.int 0))) (mBin opIx (mv 1) (mc (.int 0)))) (pCons (mBin opMul (mBin opIx (mv 0) (mc (.int 1))) (mBin opIx (mv 1) (mc (.int 1)))) pNil))))
noncomputable def f__law_times:List AV->S->R AV:=fnR 2 b__law_times
noncomputable def b__law_names:Ms:=
 (sSeq (sSet 2 (mNew (gMet "str" opSplit (mc (.str "b aa zebra c quartzes ab m knows d mm likes z ba abcdefgh y zz e x f g hh jj kk pave")) (pCons (mc (.str " ")) pNil))))
 (sRet (mNew (lComp [("_law_turn",none),("_law_some",some 2),("_law_state",some 0)] (srcR (pCons (mv 1) pNil)) (gN 0) cYes (mMet "list" opPop (mv 1) (pCons (mCall 2 f__law_take (pCons (mv 2) (pCons (mOp opLen (pCons (mv 1) pNil)) pNil))) pNil))))))
noncomputable def f__law_names:List AV->S->R AV:=fnR 3 b__law_names
end Ro
namespace Sx
open PySem
def Rise (xs:Array Nat):Prop:=∀ (i j:Nat) (a b:Nat),i < j->xs[i]? = some a->xs[j]? = some b->a < b
theorem getD_at {xs:Array Nat}{m d:Nat}(h:m < xs.size):∃ a,xs[m]? = some a/\xs.getD m d=a:=⟨xs[m],by simp[h],by simp[Array.getD,h]⟩
theorem below_go (xs:Array Nat)(h:Rise xs)(j:Nat):∀ (f lo hi:Nat),hi - lo<=f->lo<=hi->hi<=xs.size->(∀ i a,i < lo->xs[i]? = some a->a < j)->(∀ i a,hi<=i->xs[i]? = some a->j<=a)->
  SetTable.below.go xs j f lo hi<=xs.size/\(∀ i a,i < SetTable.below.go xs j f lo hi->xs[i]? = some a->a < j)/\(∀ i a,SetTable.below.go xs j f lo hi<=i->xs[i]? = some a->j<=a)
 | 0,lo,hi,h1,h2,h3,h4,h5=>by
  have:lo=hi:=by omega
  subst this
  exact⟨h3,h4,h5⟩
 | f+1,lo,hi,h1,h2,h3,h4,h5=>by
  unfold SetTable.below.go
  by_cases hl:lo < hi
  ·rw[if_pos hl]
   have hm:(lo+hi) / 2 < xs.size:=by omega
   obtain⟨a,e1,e2⟩:=getD_at (d:=j) hm
   dsimp only
   rw[e2]
   by_cases ha:a < j
   ·rw[if_pos ha]
    refine below_go xs h j f _ hi (by omega) (by omega) h3 (λ i b hi' eb=>?_) h5
    rcases Nat.lt_or_ge i ((lo+hi) / 2) with q|q
    ·exact Nat.lt_trans (h i _ b a q eb e1) ha
    ·have:i=(lo+hi) / 2:=by omega
     subst this
     rw[e1]at eb;cases eb;exact ha
   ·rw[if_neg ha]
    refine below_go xs h j f lo _ (by omega) (by omega) (by omega) h4 λ i b hi' eb=>?_
    rcases Nat.lt_or_ge ((lo+hi) / 2) i with q|q
    ·exact Nat.le_of_lt (Nat.lt_of_le_of_lt (Nat.le_of_not_lt ha) (h _ i a b q e1 eb))
    ·have:i=(lo+hi) / 2:=by omega
     subst this
     rw[e1]at eb;cases eb;exact Nat.le_of_not_lt ha
  ·rw[if_neg hl]
   have:lo=hi:=by omega
   subst this
   exact⟨h3,h4,h5⟩
theorem below_is {xs:Array Nat}(h:Rise xs)(j:Nat):SetTable.below xs j<=xs.size/\(∀ i a,i < SetTable.below xs j->xs[i]? = some a->a < j)/\(∀ i a,SetTable.below xs j<=i->xs[i]? = some a->j<=a):=
 below_go xs h j xs.size 0 xs.size (by omega) (Nat.zero_le _) (Nat.le_refl _) (λ _ _ h=>absurd h (Nat.not_lt_zero _)) λ i a hi e=>by
  have:=(Array.getElem?_eq_some_iff.mp e).1
  omega
theorem insertAt_get {α:Type}(xs:Array α)(p:Nat)(x:α)(hp:p<=xs.size)(i:Nat):(SetTable.insertAt xs p x)[i]? = if i < p then xs[i]? else if i=p then some x else xs[i - 1]?:=by
 rw[<-Array.getElem?_toList,SetTable.toList_insertAt]
 have hl:(xs.toList.take p).length=p:=by simp;omega
 by_cases h1:i < p
 ·rw[if_pos h1,List.getElem?_append_left (by omega),List.getElem?_take,if_pos h1,Array.getElem?_toList]
 ·rw[if_neg h1,List.getElem?_append_right (by omega),hl]
  by_cases h2:i=p
  ·subst h2;simp
  ·rw[if_neg h2]
   obtain⟨k,rfl⟩:∃ k,i=p+1+k:=⟨i - p - 1,by omega⟩
   rw[show p+1+k - p=k+1 by omega,List.getElem?_cons_succ,List.getElem?_drop,show p+1+k - 1=p+k by omega,Array.getElem?_toList]
theorem rise_insert {xs:Array Nat}(h:Rise xs){j:Nat}(hj:xs[SetTable.below xs j]?≠some j):Rise (SetTable.insertAt xs (SetTable.below xs j) j):=by
 obtain⟨b1,b2,b3⟩:=below_is h j
 intro i k a b hik ea eb
 rw[insertAt_get _ _ _ b1]at ea eb
 have gt:∀ m c,SetTable.below xs j<=m->xs[m]? = some c->j < c:=λ m c hm ec=>by
  rcases Nat.lt_or_eq_of_le (b3 m c hm ec) with q|q
  ·exact q
  ·subst q
   rcases Nat.lt_or_eq_of_le hm with z|z
   ·cases e0:xs[SetTable.below xs j]? with
    | none=>
     have h1:=(Array.getElem?_eq_some_iff.mp ec).1
     have h2:=Array.getElem?_eq_none_iff.mp e0
     omega
    | some c0=>
     have:=h _ m c0 j z e0 ec
     have:=b3 _ c0 (Nat.le_refl _) e0
     omega
   ·rw[z]at hj;exact absurd ec hj
 split at ea
 ·rename_i h1
  split at eb
  ·exact h i k a b hik ea eb
  ·rename_i h2
   split at eb
   ·cases eb;exact b2 i a h1 ea
   ·exact Nat.lt_trans (b2 i a h1 ea) (gt (k - 1) b (by omega) eb)
 ·rename_i h1
  rw[if_neg (by omega)]at eb
  split at ea
  ·rename_i h2
   cases ea
   rw[if_neg (by omega)]at eb
   exact gt (k - 1) b (by omega) eb
  ·rename_i h2
   rw[if_neg (by omega)]at eb
   exact h (i - 1) (k - 1) a b (by omega) ea eb
theorem probe_go {t:SetTable}{h:Int}(hd:t.dummies=#[]):∀ (f:Nat) (p:SetTable.Probe) (m:SetTable.Met),p.dummy=none->SetTable.probe.go t (λ _=>h+1) h f p=some m->∃ j,m=.empty j none/\t.slot j=.empty
 | 0,p,m,_,e=>by cases e
 | f+1,p,m,hp,e=>by
  unfold SetTable.probe.go at e
  cases hs:t.slot p.j with
  | empty=>
   rw[hs]at e
   cases e
   exact⟨p.j,by rw[hp],hs⟩
  | dummy=>
   exfalso
   unfold SetTable.slot at hs
   dsimp only at hs
   split at hs
   ·cases hs
   ·have:SetTable.has t.dummies p.j=false:=by rw[hd];rfl
    rw[this]at hs
    cases hs
  | live i=>
   rw[hs]at e
   dsimp only at e
   rw[if_neg (by simp;omega)]at e
   refine probe_go hd f _ m ?_ e
   unfold SetTable.advance
   split
   ·exact hp
   ·exact hp
theorem free_is {t:SetTable}{h:Int}(hd:t.dummies=#[]){sl:Nat}{wd:Bool}(e:t.freeSlot h=some (sl,wd)):t.place[SetTable.below t.place sl]?≠some sl:=by
 unfold SetTable.freeSlot at e
 cases q:t.probe (λ _=>h+1) h (t.probeStart h) with
 | none=>rw[q]at e;cases e
 | some m=>
  rw[q]at e
  obtain⟨j,rfl,hs⟩:=probe_go hd _ _ m rfl q
  cases e
  intro z
  unfold SetTable.slot at hs
  dsimp only at hs
  simp only[Option.getD_none]at z
  rw[z]at hs
  simp at hs
structure Good (bt:Bool)(n:Nat)(t:SetTable):Prop where
 fits:t.fits n=true
 dum:t.dummies=#[]
 led:bt=false->t.led=true
 rise:t.plain=true->Rise t.place
theorem good_fresh (bt:Bool):Good bt 0 (.fresh 0 0 (!bt)):=⟨rfl,rfl,λ h=>by rw[h];rfl,λ _ i j a b _ e=>by simp[SetTable.fresh]at e⟩
theorem Good.stand {bt:Bool}{n:Nat}{t:SetTable}(g:Good bt n t)(m:Nat):Good bt m (t.standIn m):=⟨SetTable.standIn_fits t m,rfl,g.led,λ h=>by cases h⟩
theorem Good.plain {bt:Bool}{n:Nat}{t:SetTable}(g:Good bt n t):Good bt n { t with plain:=false }:=⟨SetTable.fits_plain_off g.fits,g.dum,g.led,λ h=>by cases h⟩
theorem Good.new {bt:Bool}{es:Array (Int × Value)}{t:SetTable}(g:Good bt es.size t)(h:Int)(x:Value):Good bt (layNew t es h x).1.size (layNew t es h x).2.1:=by
 have hf:=layNew_fits t es h x
 unfold layNew at hf ⊢
 cases e:t.freeSlot h with
 | none=>dsimp only;rw[Array.size_push];exact g.stand _
 | some p=>
  obtain⟨sl,wd⟩:=p
  rw[e]at hf
  dsimp only at hf ⊢
  unfold SetTable.orStandIn at hf ⊢
  split
  ·refine⟨by assumption,?_,g.led,λ hp=>?_⟩
   ·show(if SetTable.has t.dummies sl then SetTable.eraseAt t.dummies (SetTable.below t.dummies sl) else t.dummies)=#[]
    rw[g.dum];rfl
   ·exact rise_insert (g.rise hp) (free_is g.dum e)
  ·refine⟨SetTable.standIn_fits _ _,rfl,g.led,λ h=>by cases h⟩
theorem rise_list {l:List Nat}(h:l.Pairwise (· < ·)):Rise l.toArray:=λ i j a b hij ea eb=>by
 rw[List.getElem?_toArray]at ea eb
 obtain⟨h1,e1⟩:=List.getElem?_eq_some_iff.mp ea
 obtain⟨h2,e2⟩:=List.getElem?_eq_some_iff.mp eb
 rw[<-e1,<-e2]
 exact List.pairwise_iff_getElem.mp h i j h1 h2 hij
theorem Good.relay {bt:Bool}{es:Array (Int × Value)}{t:SetTable}(g:Good bt es.size t)(wanted:Nat):Good bt (relayAll t es wanted).1.size (relayAll t es wanted).2.1:=by
 have hf:=relayAll_fits t es wanted
 unfold relayAll at hf ⊢
 cases e:t.relaid (es.map (·.1)) wanted with
 | none=>exact g.stand _
 | some p=>
  obtain⟨t',order⟩:=p
  rw[e]at hf
  dsimp only at hf ⊢
  split
  ·rename_i hc
   rw[if_pos hc]at hf
   unfold SetTable.relaid SetTable.laid at e
   cases e1:SetTable.layClean (SetTable.sizeAbove wanted - 1) (es.map (·.1)) with
   | none=>rw[e1]at e;cases e
   | some owner=>
    rw[e1]at e
    cases e
    refine⟨hf,rfl,g.led,λ _=>rise_list ?_⟩
    rw[List.map_filterMap]
    have hr:(List.range (SetTable.sizeAbove wanted - 1+1)).Pairwise (· < ·):=List.pairwise_lt_range
    refine List.Pairwise.filterMap _ (λ a b hab a' ha' b' hb'=>?_) hr
    have f1:∀ {c c':Nat},c'∈((Option.map (λ x=>(c,x)) (owner.getD c none)).map (·.1))->c'=c:=λ {c c'} hc=>by
     cases q:owner.getD c none with
     | none=>rw[q]at hc;cases hc
     | some z=>rw[q]at hc;cases hc;rfl
    rw[f1 ha',f1 hb']
    exact hab
  ·exact g.stand _
end Sx
namespace Sx
open PySem PyProof.Rows
def byText (w:World):Bool:=w.params.followText "set-order"
def Keys {prog:Program}{w:World}{K:Type} [DecidableEq K] (knd:PySem.KeyKind prog w K):List Value->List K->Prop
 | [],[]=>True
 | v :: vs,k :: ks=>knd.is k v=true/\Keys knd vs ks
 | _,_=>False
def insK {K:Type} [DecidableEq K] (ks:List K)(k:K):List K:=if k∈ks then ks else ks++[k]
abbrev setObj (es:Array (Int × Value)) (ep:Nat)(t:SetTable):Obj:={ cls:=.type "set",dict:=none,data:=.set es ep t,slots:=#[] }
section
variable {prog:Program}{w:World}{K:Type} [DecidableEq K] {knd:PySem.KeyKind prog w K}{A:Around}{E:Value->Shared->Prop}{s:Shared}{a:Addr}{ks:List K}{k:K}{x:Value}
theorem Keys.length:∀ {vs:List Value}{ks:List K},Keys knd vs ks->vs.length=ks.length
 | [],[],_=>rfl
 | _ :: _,_ :: _,h=>by rw[List.length_cons,List.length_cons,Keys.length h.2]
 | [],_ :: _,h=>h.elim
 | _ :: _,[],h=>h.elim
theorem Keys.app:∀ {vs vs':List Value}{ks ks':List K},Keys knd vs ks->Keys knd vs' ks'->Keys knd (vs++vs') (ks++ks')
 | [],_,[],_,_,h=>h
 | _ :: _,_,_ :: _,_,h,h'=>⟨h.1,Keys.app h.2 h'⟩
 | [],_,_ :: _,_,h,_=>h.elim
 | _ :: _,_,[],_,h,_=>h.elim
theorem Keys.perm {vs vs':List Value}(p:vs'.Perm vs):∀ {ks:List K},Keys knd vs ks->∃ ks',ks'.Perm ks/\Keys knd vs' ks':=by
 induction p with
 | nil=>intro ks h;exact⟨ks,.refl _,h⟩
 | cons v _ ih=>
  intro ks h
  cases ks with
  | nil=>exact h.elim
  | cons k ks=>obtain⟨ks',p,q⟩:=ih h.2;exact⟨k :: ks',p.cons k,h.1,q⟩
 | swap u v l=>
  intro ks h
  cases ks with
  | nil=>exact h.elim
  | cons k ks=>
   cases ks with
   | nil=>exact h.2.elim
   | cons j ks=>exact⟨j :: k :: ks,.swap _ _ _,h.2.1,h.1,h.2.2⟩
 | trans _ _ ih1 ih2=>intro ks h;obtain⟨k1,p1,q1⟩:=ih2 h;obtain⟨k2,p2,q2⟩:=ih1 q1;exact⟨k2,p2.trans p1,q2⟩
theorem Keys.mem:∀ {vs:List Value}{ks:List K},Keys knd vs ks->∀ k,k∈ks ↔ ∃ v∈vs,knd.is k v=true
 | [],[],_,k=>by simp
 | v :: vs,j :: ks,h,k=>by
  rw[List.mem_cons,Keys.mem h.2 k]
  constructor
  ·rintro(rfl|⟨u,h1,h2⟩)
   ·exact⟨v,List.mem_cons_self,h.1⟩
   ·exact⟨u,List.mem_cons_of_mem _ h1,h2⟩
  ·rintro⟨u,h1,h2⟩
   rcases List.mem_cons.mp h1 with rfl|h1
   ·exact .inl (knd.inj _ _ _ h2 h.1)
   ·exact .inr ⟨u,h1,h2⟩
 | [],_ :: _,h,_=>h.elim
 | _ :: _,[],h,_=>h.elim
def SetK (knd:PySem.KeyKind prog w K)(h:Heap)(a:Addr)(ks:List K):Prop:=
 ∃ es ep t ks',h.get? a=some (setObj es ep t)/\Good (byText w) es.size t/\es.size < scanBound/\ElemsOf knd es.toList/\Keys knd (es.toList.map (·.2)) ks'/\ks'.Perm ks/\ks.Nodup
theorem set_put {es:Array (Int × Value)}{ep:Nat}{t:SetTable}{es':Array (Int × Value)}{t':SetTable}(h:s.heap.get? a=some (setObj es ep t)):(s.heap.update a (Obj.putSet es' t')).get? a=some (setObj es' (ep+1) t'):=by
 have:=Heap.get?_update_self (Obj.putSet es' t') h (by rw[putSet_of es' t' rfl];rfl)
 rw[putSet_of es' t' rfl]at this
 exact this
theorem set_tail {g:Bool->Sem Unit}(hg:∀ (b:Bool)(s₁:Shared)(Q':Unit->Shared->Prop),Q' () s₁->wpAny (model prog w) A (g b) Q' E s₁)
  {es:Array (Int × Value)}{ep:Nat}{t:SetTable}(ho:s.heap.get? a=some (setObj es ep t)) {es1:Array (Int × Value)}{t2:SetTable}{ks1:List K}(g2:Good (byText w) es1.size t2) (hb1:es1.size < scanBound) (hel:ElemsOf knd es1.toList)
  (hk:∃ ks',Keys knd (es1.toList.map (·.2)) ks'/\ks'.Perm ks1) (nd:ks1.Nodup) {wasDummy:Bool}{R:Option Bool->Shared->Prop}
  (h:∀ h',Heap.SameBut a s.heap h'->SetK knd h' a ks1->R (some true) { s with heap:=h' }) :
  wpAny (model prog w) A (do
    storeSet a es1 t2
    if (!wasDummy && t2.tooFull)=true then do
      g (relayAll t2 es1 (SetTable.grown es1.size)).2.2
      storeSet a (relayAll t2 es1 (SetTable.grown es1.size)).1 (relayAll t2 es1 (SetTable.grown es1.size)).2.1
      pure (some true)
     else pure (some true)) R E s:=by
 refine wpAny_bind (wpAny_storeSet_of ho rfl ?_ (fits_of_scanBound hb1))
 have ho1:=set_put (es':=es1) (t':=t2) ho
 have hsb1:=Heap.SameBut.update s.heap a (Obj.putSet es1 t2)
 obtain⟨ks',q1,q2⟩:=hk
 split
 ·have hp:=relayAll_perm t2 es1 (SetTable.grown es1.size)
  have gr:=g2.relay (SetTable.grown es1.size)
  generalize relayAll t2 es1 (SetTable.grown es1.size)=Rl at hp gr ⊢
  obtain⟨es2,t3,gave2⟩:=Rl
  dsimp only at hp gr ⊢
  have hsz:es2.size=es1.size:=by rw[<-Array.length_toList,hp.length_eq,Array.length_toList]
  refine wpAny_bind (hg _ _ _ ?_)
  refine wpAny_bind (wpAny_storeSet_of ho1 rfl ?_ (fits_of_scanBound (by rw[hsz];exact hb1)))
  obtain⟨k2,p2,q3⟩:=Keys.perm (hp.map (·.2)) q1
  refine wpAny_pure (h _ (hsb1.trans (Heap.SameBut.update _ a _)) ⟨es2,_,t3,k2,set_put (s:={ s with heap:=s.heap.update a (Obj.putSet es1 t2) }) ho1,gr,by rw[hsz];exact hb1,hel.perm hp,q3,p2.trans q2,nd⟩)
 ·exact wpAny_pure (h _ hsb1 ⟨es1,_,t2,ks',ho1,g2,hb1,hel,q1,q2,nd⟩)
theorem set_addH {Q:Bool->Shared->Prop}(hkey:knd.is k x=true)(hsc:x.scannable=true)(hS:SetK knd s.heap a ks)(hroom:ks.length+1 < scanBound)
  (h:∀ h' b,Heap.SameBut a s.heap h'->SetK knd h' a (insK ks k)->Q b { s with heap:=h' }):wpAny (model prog w) A (setAddHashed a x (knd.hash k)) Q E s:=by
 obtain⟨es,ep,t,ks',ho,g,hb,hel,hK,hp,nd⟩:=id hS
 have hlen:es.size=ks.length:=by rw[<-hp.length_eq,<-hK.length,List.length_map,Array.length_toList]
 have hb1:es.size+1 < scanBound:=by rw[hlen];exact hroom
 unfold setAddHashed setAddHashedIn
 refine wpAny_holding (wpAny_bind (wpAny_setState_of ho rfl g.fits ?_))
 dsimp only
 rw[byScan_of hsc hb hel]
 simp only[↓reduceIte]
 unfold setAddByScan
 refine wpAny_bind ?_
 refine wpAny_bind (wpAny_rule ?_)
 refine wpAny_bind (wpAny_setScan_of hkey ho rfl g.fits hel ?_)
 cases hr:List.findIdx? (λ e=>knd.is k e.2) es.toList with
 | some j=>
  dsimp only
  obtain⟨hj,hpj,_⟩:=List.findIdx?_eq_some_iff_getElem.mp hr
  have hm:k∈ks:=hp.mem_iff.mp ((hK.mem k).mpr ⟨_,List.mem_map.mpr ⟨_,List.getElem_mem hj,rfl⟩,hpj⟩)
  refine wpAny_pure (wpAny_pure ?_)
  have e:s={ s with heap:=s.heap }:=by cases s;rfl
  rw[e]
  exact h s.heap _ (Heap.SameBut.refl a s.heap) (by unfold insK;rw[if_pos hm];exact hS)
 | none=>
  dsimp only
  have hm:k∉ks:=λ hm=>by
   obtain⟨v,h1,h2⟩:=(hK.mem k).mp (hp.mem_iff.mpr hm)
   obtain⟨e,he,rfl⟩:=List.mem_map.mp h1
   have:=List.findIdx?_eq_none_iff.mp hr e he
   rw[h2]at this;cases this
  have hgw:∀ (b:Bool) {s₁:Shared}{Q':Unit->Shared->Prop},Q' () s₁->wpAny (model prog w) A (match b with|true=>rule "set.scan.the-table-gave-way" | false=>pure ()) Q' E s₁:=
   λ b s₁ Q' hq=>by cases b<;>first|exact wpAny_pure hq|exact wpAny_rule hq
  have hperm:=layNew_perm t es (knd.hash k) x
  have gn:=g.new (knd.hash k) x
  generalize layNew t es (knd.hash k) x=L at hperm gn ⊢
  obtain⟨es1,t1,wasDummy,gave⟩:=L
  dsimp only at hperm gn ⊢
  rw[Array.toList_push]at hperm
  have hel1:ElemsOf knd es1.toList:=(hel.push hkey hsc).perm hperm
  have hb1':es1.size < scanBound:=by rw[<-Array.length_toList,hperm.length_eq,List.length_append,Array.length_toList];simpa using hb1
  have hks:∃ k1,Keys knd (es1.toList.map (·.2)) k1/\k1.Perm (ks++[k]):=by
   have q:Keys knd ((es.toList++[(knd.hash k,x)]).map (·.2)) (ks'++[k]):=by rw[List.map_append];exact hK.app ⟨hkey,trivial⟩
   obtain⟨k1,p1,q1⟩:=Keys.perm (hperm.map (·.2)) q
   exact⟨k1,q1,p1.trans (hp.append_right _)⟩
  have nd1:(ks++[k]).Nodup:=List.nodup_append.mpr ⟨nd,by simp,λ z hz y hy e=>by rw[List.mem_singleton.mp hy]at e;subst e;exact hm hz⟩
  have hend:∀ h',Heap.SameBut a s.heap h'->SetK knd h' a (ks++[k])->wpAny (model prog w) A (pure true) Q E { s with heap:=h' }:=λ h' hsb hS'=>wpAny_pure (h h' _ hsb (by unfold insK;rw[if_neg hm];exact hS'))
  refine wpAny_bind (hgw _ ?_)
  split
  ·refine wpAny_bind ?_
   rw[hashByValue_scannable 8 hsc]
   refine wpAny_pure ?_
   refine set_tail ?_ ho ?_ hb1' hel1 hks nd1 ?_
   ·intro b s₁ Q' hq;cases b<;>first|exact wpAny_pure hq|exact wpAny_rule hq
   ·split
    ·exact gn
    ·exact gn.plain
   ·intro h' hsb hS';dsimp only;exact hend h' hsb hS'
  ·refine wpAny_bind (wpAny_pure ?_)
   simp only[↓reduceIte]
   refine set_tail ?_ ho gn hb1' hel1 hks nd1 ?_
   ·intro b s₁ Q' hq;cases b<;>first|exact wpAny_pure hq|exact wpAny_rule hq
   ·intro h' hsb hS';dsimp only;exact hend h' hsb hS'
theorem SetK.keep {h h':Heap}(hS:SetK knd h a ks)(hk:∀ o,h.get? a=some o->h'.get? a=some o):SetK knd h' a ks:=let ⟨es,ep,t,ks',ho,r⟩:=hS;⟨es,ep,t,ks',hk _ ho,r⟩
theorem SetK.typeIs (hS:SetK knd s.heap a ks):s.TypeIs (.ref a) "set":=let ⟨es,ep,t,ks',ho,r⟩:=hS;⟨_,ho,rfl⟩
theorem SetK.lt {h:Heap}(hS:SetK knd h a ks):a < h.objs.size:=let ⟨es,ep,t,ks',ho,r⟩:=hS;Heap.lt_size ho
end
end Sx
namespace Sx
open PySem PyProof.Rows
theorem erase_perm {α:Type}{l:List α}{i:Nat}(h:i < l.length):(l[i] :: l.eraseIdx i).Perm l:=by
 rw[List.eraseIdx_eq_take_drop_succ]
 refine List.perm_middle.symm.trans ?_
 rw[<-List.drop_eq_getElem_cons h,List.take_append_drop]
theorem pick_go {α:Type}(next:Nat->Nat):∀ (f k:Nat) (left:List α) (out:Array α),left.length<=f->(pickOrder.go next f k left out).toList.Perm (out.toList++left)
 | 0,k,left,out,h=>by
  have:left=[]:=List.length_eq_zero_iff.mp (by omega)
  subst this
  rw[List.append_nil];exact .refl _
 | f+1,k,left,out,h=>by
  unfold pickOrder.go
  cases left with
  | nil=>simp
  | cons x r=>
   have hlt:next k % (x :: r).length < (x :: r).length:=Nat.mod_lt _ (by simp)
   rw[List.getElem?_eq_getElem hlt]
   dsimp only
   refine(pick_go next f (k+1) _ _ (by rw[List.length_eraseIdx_of_lt hlt];simp at h ⊢;omega)).trans ?_
   rw[Array.toList_push,List.append_assoc]
   refine List.Perm.append_left _ ?_
   exact(erase_perm hlt)
theorem pick_perm {α:Type}(next:Nat->Nat)(xs:Array α):(pickOrder next xs).toList.Perm xs.toList:=by
 have:=pick_go next xs.size 0 xs.toList #[] (by simp)
 rw[List.nil_append]at this
 exact this
abbrev itObj (first:Value)(i:Nat)(a:Addr)(n ep:Nat):Obj:={ cls:=.type "set_iterator",dict:=none,data:=.fields #[first,.int i 0,.ref a,.int n 0,.int ep 0],slots:=#[] }
section
variable {prog:Program}{w:World}{A:Around}{E:Value->Shared->Prop}{s:Shared}{a:Addr}{es:Array (Int × Value)}{ep:Nat}{t:SetTable}
theorem next_text {sl i:Nat}{Q:Option (Value × Nat)->Shared->Prop}(hb:byText w=true)(ho:s.heap.get? a=some (setObj es ep t)) (g:Good (byText w) es.size t)
  (h:Q (((pickOrder (w.params.setOrder a ep) es)[i]?).map λ e=>(e.2,sl)) s):wpAny (model prog w) A (setNext a sl i ep) Q E s:=by
 unfold setNext setsByText
 refine wpAny_bind (wpAny_setState_of ho rfl g.fits ?_)
 dsimp only
 refine wpAny_bind (wpAny_bind (wpAny_askSetting (wpAny_pure ?_)))
 have hb':(model prog w).w.params.followText "set-order"=true:=hb
 dsimp only
 rw[hb']
 simp only[if_true,bne_self_eq_false,Bool.false_eq_true,if_false]
 unfold setWalk setsByText
 refine wpAny_bind (wpAny_bind (wpAny_setState_of ho rfl g.fits ?_))
 dsimp only
 refine wpAny_bind (wpAny_bind (wpAny_askSetting (wpAny_pure ?_)))
 dsimp only
 rw[hb']
 simp only[if_true]
 refine wpAny_bind (wpAny_askSetting (wpAny_pure (wpAny_pure h)))
theorem next_place {sl i:Nat}{Q:Option (Value × Nat)->Shared->Prop}(hb:byText w=false)(ho:s.heap.get? a=some (setObj es ep t)) (g:Good (byText w) es.size t) (hd:(!t.plain && decide (es.size > 1))=false)
  (h:Q (match es[SetTable.below t.place sl]?,t.place[SetTable.below t.place sl]? with|some (_,x),some j=>some (x,j+1)|_,_=>none) s):wpAny (model prog w) A (setNext a sl i ep) Q E s:=by
 unfold setNext setsByText
 refine wpAny_bind (wpAny_setState_of ho rfl g.fits ?_)
 dsimp only
 refine wpAny_bind (wpAny_bind (wpAny_askSetting (wpAny_pure ?_)))
 have hb':(model prog w).w.params.followText "set-order"=false:=hb
 dsimp only
 rw[hb']
 simp only[Bool.false_eq_true,if_false]
 split
 ·rename_i hx
  have hx:(!t.plain && decide (es.size > 1))=true:=hx
  rw[hd]at hx;cases hx
 ·show wpAny _ _ ((if (!t.led && !es.isEmpty)=true then unsupported "set:maker-not-led" else pure PUnit.unit) >>= λ _=>_) _ _ _
  rw[g.led hb]
  simp only[Bool.not_true,Bool.false_and,Bool.false_eq_true,if_false]
  exact wpAny_bind (wpAny_pure (wpAny_pure h))
theorem draw_perm {α:Type}:∀ (n:Nat) (xs:List α) (s:Shared) {Q:List α->Shared->Prop},xs.length<=n->(∀ ys d,ys.Perm xs->Q ys { s with drawn:=d })->wpAny (model prog w) A (drawOrder n xs) Q E s
 | 0,xs,s,Q,hl,h=>by
  have:xs=[]:=List.length_eq_zero_iff.mp (by omega)
  subst this
  unfold drawOrder
  exact wpAny_pure (h [] s.drawn (.refl _))
 | n+1,[],s,Q,hl,h=>by
  unfold drawOrder
  exact wpAny_pure (h [] s.drawn (.refl _))
 | n+1,x :: r,s,Q,hl,h=>by
  unfold drawOrder
  refine wpAny_bind ?_
  have hc:∀ {Q':Nat->Shared->Prop},(∀ i d,i < (x :: r).length->Q' i { s with drawn:=d })->wpAny (model prog w) A (choose .order (x :: r).length) Q' E s:=λ {Q'} hq Γ p hΓ=>by
   show Sem.wp (model prog w) Γ (.choose .order (x :: r).length .pure) _ _ p s
   rw[Sem.wp_choose]
   refine⟨by simp,?_⟩
   have:=hq ((model prog w).w.draws .order (s.drawn.get .order) % (x :: r).length) (s.drawn.bump .order) (Nat.mod_lt _ (by simp))
   first|exact this|(rw[Sem.wp_pure];exact this)|simpa using this
  refine hc λ i d hi=>?_
  rw[List.getElem?_eq_getElem hi]
  dsimp only
  refine wpAny_bind (draw_perm n _ _ (by rw[List.length_eraseIdx_of_lt hi];simp at hl ⊢;omega) λ ys d' p=>wpAny_pure (h _ d' ?_))
  exact(p.cons _).trans (erase_perm hi)
end
end Sx
namespace Sx
open PySem PyProof.Rows
theorem slot_si_next:Slot "set_iterator" "__next__" "set_iterator.__next__":=
 .of (owner:="set_iterator") (n:="__next__") (by rw[typeLookup_type,builtinLookup_eq_fast];kernel_rfl) (by decide +kernel) (by decide +kernel) (by decide +kernel)
  (by first|exact .inl (by decide +kernel)|exact .inr (by decide +kernel)) (by rw[isSubtype_type];kernel_rfl)
theorem entry_si_next:entryFor table "set_iterator.__next__"=some Builtin.«set_iterator.__next__»:=entryFor_of_tree (by kernel_rfl)
theorem args_si_next (a:Value):argsOk "set_iterator.__next__" ⟨[a],[]⟩:=by unfold argsOk;kernel_rfl
theorem slot_si_iter:Slot "set_iterator" "__iter__" "set_iterator.__iter__":=
 .of (owner:="set_iterator") (n:="__iter__") (by rw[typeLookup_type,builtinLookup_eq_fast];kernel_rfl) (by decide +kernel) (by decide +kernel) (by decide +kernel)
  (by first|exact .inl (by decide +kernel)|exact .inr (by decide +kernel)) (by rw[isSubtype_type];kernel_rfl)
theorem entry_si_iter:entryFor table "set_iterator.__iter__"=some Builtin.«dict_keyiterator.__iter__»:=
 entryFor_alias (id':="dict_keyiterator.__iter__") (by kernel_rfl) rfl (by decide +kernel) (by kernel_rfl)
theorem args_si_iter (a:Value):argsOk "set_iterator.__iter__" ⟨[a],[]⟩:=by unfold argsOk;kernel_rfl
theorem entry_set_iter:entryFor table "set.__iter__"=some Builtin.«frozenset.__iter__»:=
 entryFor_alias (id':="frozenset.__iter__") (by kernel_rfl) rfl (by decide +kernel) (by kernel_rfl)
section
variable {prog:Program}{w:World}{A:Around}{E:Value->Shared->Prop}{s:Shared}{a I:Addr}{es:Array (Int × Value)}{ep i sl:Nat}{t:SetTable}
theorem it_self {f:Value}{n:Nat}{Q:Value->Shared->Prop}(hit:s.heap.get? I=some (itObj f i a n ep)) (h:Q (.ref I) s):wpAny (model prog w) A (pyIter (.ref I)) Q E s:=by
 have hT:s.TypeIs (.ref I) "set_iterator":=⟨_,hit,rfl⟩
 refine wpAny_pyIter_slot hT slot_si_iter (wpAny_call_entry slot_si_iter hT entry_si_iter ?_ (args_si_iter _))
 show wpAny _ _ (ret (.ref I)) _ _ s
 exact wpAny_pure ⟨_,rfl,"set_iterator",_,hT,slot_si_next.lookup,h⟩
theorem it_item {x:Value}{nx:Nat}{Q:Option Value->Shared->Prop}(hit:s.heap.get? I=some (itObj (.int sl 0) i a es.size ep)) (ho:s.heap.get? a=some (setObj es ep t)) (g:Good (byText w) es.size t)
  (hn:∀ {E:Value->Shared->Prop}{Q:Option (Value × Nat)->Shared->Prop},Q (some (x,nx)) s->wpAny (model prog w) A.in1 (setNext a sl i ep) Q E s)
  (h:∀ h',h'.get? I=some (itObj (.int nx 0) (i+1) a es.size ep)->Heap.SameBut I s.heap h'->Q (some x) { s with heap:=h' }):wpAny (model prog w) A (pyNext (.ref I)) Q E s:=by
 have hT:s.TypeIs (.ref I) "set_iterator":=⟨_,hit,rfl⟩
 unfold pyNext
 refine wpAny_bind (wpAny_attempt (wpAny_callSpecial?_slot (name:=Str.ofString "__next__") hT slot_si_next (wpAny_call_entry slot_si_next hT entry_si_next ?_ (args_si_next _))))
 unfold Builtin.«set_iterator.__next__»
 refine wpAny_bind (m:=slotArgs _ _ _) (wpAny_pure ?_)
 refine wpAny_bind (wpAny_fieldsOf hit rfl ?_)
 dsimp only
 refine wpAny_bind (wpAny_setEntries_of ho rfl g.fits ?_)
 rw[if_neg (by simp)]
 simp only[Int.toNat_natCast]
 refine wpAny_bind (hn ?_)
 dsimp only
 refine wpAny_bind (wpAny_setField_rec hit (by simp) λ h1 e1 k1=>?_)
 refine wpAny_bind (wpAny_setField_rec (s:={ s with heap:=h1 }) e1 (by simp) λ h2 e2 k2=>?_)
 refine wpAny_pure ⟨_,rfl,wpAny_pure (h h2 ?_ (k1.trans k2))⟩
 have e3:((i+1:Nat):Int)=(i:Int)+1:=by omega
 show h2.get? I=some { cls:=.type "set_iterator",dict:=none,data:=.fields #[.int nx 0,.int ((i+1:Nat):Int) 0,.ref a,.int es.size 0,.int ep 0],slots:=#[] }
 rw[e3]
 simpa[rawInt]using e2
theorem stop_any {Q:Option Value->Shared->Prop}(hh:A.handled=none)(h:∀ h',(∀ b o,s.heap.get? b=some o->h'.get? b=some o)->Q none { s with heap:=h' }) :
  wpAny (model prog w) A.in1 (do raiseNew (<-newExc (.type "StopIteration") []):Sem PySem.Fin) (λ fin s'=>∃ r,fin=.done (.ret r)/\(wpAny (model prog w) A (pure (some r)) Q E s')) (λ x s'=>wpAny (model prog w) A (do if <-isInstance x (.type "StopIteration") then pure none else throw x) Q E s') s:=by
 refine wpAny_bind ?_
 simp only[newExc,newTuple]
 refine wpAny_bind (wpAny_newObj_type ?_ (by size_fits))
 refine wpAny_bind (m:=firstArgMember _ _) (wpAny_of_eq (a:=Value.none) (by first|rfl|(simp only[firstArgMember];rfl)) ?_)
 refine wpAny_newObj_type ?_ (by size_fits)
 simp only[raiseNew]
 refine wpAny_bind (wpAny_handled ?_)
 rw[show A.in1.handled=none from hh]
 refine wpAny_bind (wpAny_pure (wpAny_throw ?_))
 refine wpAny_bind (wpAny_isInstance (T:="StopIteration") (b:=true) ⟨_,Heap.get?_push_size _ rfl,rfl⟩ isSubtype_stop ?_)
 exact wpAny_pure (h _ λ b o e=>Heap.get?_push_of_some _ (Heap.get?_push_of_some _ e))
theorem it_done {Q:Option Value->Shared->Prop}(hh:A.handled=none)(hit:s.heap.get? I=some (itObj (.int sl 0) i a es.size ep)) (ho:s.heap.get? a=some (setObj es ep t)) (g:Good (byText w) es.size t)
  (hn:∀ {E:Value->Shared->Prop}{Q:Option (Value × Nat)->Shared->Prop},Q none s->wpAny (model prog w) A.in1 (setNext a sl i ep) Q E s)
  (h:∀ h',(∀ b o,b≠I->s.heap.get? b=some o->h'.get? b=some o)->Q none { s with heap:=h' }):wpAny (model prog w) A (pyNext (.ref I)) Q E s:=by
 have hT:s.TypeIs (.ref I) "set_iterator":=⟨_,hit,rfl⟩
 unfold pyNext
 refine wpAny_bind (wpAny_attempt (wpAny_callSpecial?_slot (name:=Str.ofString "__next__") hT slot_si_next (wpAny_call_entry slot_si_next hT entry_si_next ?_ (args_si_next _))))
 unfold Builtin.«set_iterator.__next__»
 refine wpAny_bind (m:=slotArgs _ _ _) (wpAny_pure ?_)
 refine wpAny_bind (wpAny_fieldsOf hit rfl ?_)
 dsimp only
 refine wpAny_bind (wpAny_setEntries_of ho rfl g.fits ?_)
 rw[if_neg (by simp)]
 simp only[Int.toNat_natCast]
 refine wpAny_bind (hn ?_)
 dsimp only
 refine wpAny_bind (wpAny_setField_rec hit (by simp) λ h1 e1 k1=>?_)
 exact stop_any (s:={ s with heap:=h1 }) hh λ h' k=>h h' λ b o hb e=>k b o ((k1.2 b hb).trans e)
theorem it_itemD {tp:Addr}{ps:List Nat}{p:Nat}{x:Int × Value}{Q:Option Value->Shared->Prop}(hit:s.heap.get? I=some (itObj (.ref tp) i a es.size ep)) (ho:s.heap.get? a=some (setObj es ep t)) (g:Good (byText w) es.size t)
  (htp:s.heap.get? tp=some { cls:=.type "tuple",data:=.seq (ps.map λ(i:Nat)=>rawInt i).toArray }) (hp:ps[i]? = some p) (hx:es[p]? = some x)
  (h:∀ h',h'.get? I=some (itObj (.ref tp) (i+1) a es.size ep)->Heap.SameBut I s.heap h'->Q (some x.2) { s with heap:=h' }):wpAny (model prog w) A (pyNext (.ref I)) Q E s:=by
 have hT:s.TypeIs (.ref I) "set_iterator":=⟨_,hit,rfl⟩
 unfold pyNext
 refine wpAny_bind (wpAny_attempt (wpAny_callSpecial?_slot (name:=Str.ofString "__next__") hT slot_si_next (wpAny_call_entry slot_si_next hT entry_si_next ?_ (args_si_next _))))
 unfold Builtin.«set_iterator.__next__»
 refine wpAny_bind (m:=slotArgs _ _ _) (wpAny_pure ?_)
 refine wpAny_bind (wpAny_fieldsOf hit rfl ?_)
 dsimp only
 refine wpAny_bind (wpAny_setEntries_of ho rfl g.fits ?_)
 rw[if_neg (by simp)]
 refine wpAny_bind (m:=seqItems? _) ?_
 unfold seqItems?
 dsimp only
 refine wpAny_bind (wpAny_load htp (wpAny_pure ?_))
 dsimp only
 simp only[Int.toNat_natCast]
 have e1:(ps.map λ(i:Nat)=>rawInt i).toArray[i]? = some (rawInt p):=by rw[List.getElem?_toArray,List.getElem?_map,hp];rfl
 rw[e1]
 dsimp only[rawInt]
 refine wpAny_bind ?_
 unfold setNextDrawn
 refine wpAny_bind (wpAny_setState_of ho rfl g.fits ?_)
 dsimp only
 simp only[Int.toNat_natCast,bne_self_eq_false,Bool.false_eq_true,if_false]
 rw[hx]
 refine wpAny_pure ?_
 refine wpAny_bind (wpAny_setField_rec hit (by simp) λ h1 e1 k1=>?_)
 refine wpAny_pure ⟨_,rfl,wpAny_pure (h h1 ?_ k1)⟩
 have e3:((i+1:Nat):Int)=(i:Int)+1:=by omega
 show h1.get? I=some { cls:=.type "set_iterator",dict:=none,data:=.fields #[.ref tp,.int ((i+1:Nat):Int) 0,.ref a,.int es.size 0,.int ep 0],slots:=#[] }
 rw[e3]
 simpa[rawInt]using e1
theorem it_doneD {tp:Addr}{ps:List Nat}{Q:Option Value->Shared->Prop}(hh:A.handled=none)(hit:s.heap.get? I=some (itObj (.ref tp) i a es.size ep)) (ho:s.heap.get? a=some (setObj es ep t)) (g:Good (byText w) es.size t)
  (htp:s.heap.get? tp=some { cls:=.type "tuple",data:=.seq (ps.map λ(i:Nat)=>rawInt i).toArray }) (hp:ps[i]? = none)
  (h:∀ h',(∀ b o,b≠I->s.heap.get? b=some o->h'.get? b=some o)->Q none { s with heap:=h' }):wpAny (model prog w) A (pyNext (.ref I)) Q E s:=by
 have hT:s.TypeIs (.ref I) "set_iterator":=⟨_,hit,rfl⟩
 unfold pyNext
 refine wpAny_bind (wpAny_attempt (wpAny_callSpecial?_slot (name:=Str.ofString "__next__") hT slot_si_next (wpAny_call_entry slot_si_next hT entry_si_next ?_ (args_si_next _))))
 unfold Builtin.«set_iterator.__next__»
 refine wpAny_bind (m:=slotArgs _ _ _) (wpAny_pure ?_)
 refine wpAny_bind (wpAny_fieldsOf hit rfl ?_)
 dsimp only
 refine wpAny_bind (wpAny_setEntries_of ho rfl g.fits ?_)
 rw[if_neg (by simp)]
 refine wpAny_bind (m:=seqItems? _) ?_
 unfold seqItems?
 dsimp only
 refine wpAny_bind (wpAny_load htp (wpAny_pure ?_))
 dsimp only
 simp only[Int.toNat_natCast]
 have e1:(ps.map λ(i:Nat)=>rawInt i).toArray[i]? = none:=by rw[List.getElem?_toArray,List.getElem?_map,hp];rfl
 rw[e1]
 dsimp only
 refine wpAny_bind (wpAny_setField_rec hit (by simp) λ h1 e1 k1=>?_)
 refine wpAny_bind (wpAny_setField_rec (s:={ s with heap:=h1 }) e1 (by simp) λ h2 e2 k2=>?_)
 exact stop_any (s:={ s with heap:=h2 }) hh λ h' k=>h h' λ b o hb e=>k b o (((k1.trans k2).2 b hb).trans e)
end
end Sx
namespace Sx
open PySem PyProof.Rows
theorem below_eq {xs:Array Nat}(h:Rise xs){j i:Nat}(hi:i<=xs.size)(h1:∀ k b,k < i->xs[k]? = some b->b < j)(h2:∀ k b,i<=k->xs[k]? = some b->j<=b):SetTable.below xs j=i:=by
 obtain⟨b1,b2,b3⟩:=below_is h j
 rcases Nat.lt_trichotomy (SetTable.below xs j) i with q|q|q
 ·have hl:SetTable.below xs j < xs.size:=by omega
  have e:xs[SetTable.below xs j]? = some xs[SetTable.below xs j]:=by simp[hl]
  have:=h1 _ _ q e
  have:=b3 _ _ (Nat.le_refl _) e
  omega
 ·exact q
 ·have hl:i < xs.size:=by omega
  have e:xs[i]? = some xs[i]:=by simp[hl]
  have:=b2 _ _ q e
  have:=h2 _ _ (Nat.le_refl _) e
  omega
section
variable {prog:Program}{w:World}{K:Type} [DecidableEq K] {knd:PySem.KeyKind prog w K}{A:Around}{E:Value->Shared->Prop}{s:Shared}{a:Addr}{ks:List K}
def WalkOk (prog:Program)(w:World){K:Type} [DecidableEq K] (knd:PySem.KeyKind prog w K)(A:Around)(ks:List K)(a:Addr)(h h':Heap)(I:Addr):Prop:=
 (∀ b o,h.get? b=some o->h'.get? b=some o)/\∃ (L:List Value) (fp:List Addr) (St:Nat->Heap->Prop),(∀ b∈fp,b=a∨h.objs.size<=b)/\I∈fp/\h.objs.size<=I/\Walks prog w A I fp [I] L.length (λ i v=>L[i]? = some v) St/\St 0 h'/\∃ ks',Keys knd L ks'/\ks'.Perm ks
theorem set_iter {A':Around}(hh:A'.handled=none){Q:Value->Shared->Prop}(hS:SetK knd s.heap a ks)
  (h:∀ I h' d,WalkOk prog w knd A' ks a s.heap h' I->Q (.ref I) { s with heap:=h',drawn:=d }):wpAny (model prog w) A (pyIter (.ref a)) Q E s:=by
 obtain⟨es,ep,t,ks',ho,g,hb,hel,hK,hp,nd⟩:=id hS
 have hla:a < s.heap.objs.size:=Heap.lt_size ho
 have hT:=hS.typeIs
 refine wpAny_pyIter_slot hT F.slot_set_iter (wpAny_call_entry F.slot_set_iter hT entry_set_iter ?_ (F.args_set_iter_1 _))
 unfold Builtin.«frozenset.__iter__» Builtin.Frozenset.slot0 Builtin.Frozenset.addrOf Builtin.Frozenset.sizeOf
 refine wpAny_bind (wpAny_bind (m:=slotArgs _ _ _) (wpAny_pure (wpAny_pure ?_)))
 refine wpAny_bind (wpAny_bind (wpAny_setEntries_of ho rfl g.fits (wpAny_pure ?_)))
 have hdr:∀ {Q:Bool->Shared->Prop}{E:Value->Shared->Prop},Q (!byText w && (!t.plain && decide (es.size > 1))) s->wpAny (model prog w) A.in1 (setDrawn a) Q E s:=λ {Q E} hq=>by
  unfold setDrawn setsByText
  refine wpAny_bind (wpAny_setState_of ho rfl g.fits ?_)
  dsimp only
  refine wpAny_bind (wpAny_bind (wpAny_askSetting (wpAny_pure (wpAny_pure hq))))
 refine wpAny_bind (hdr ?_)
 have iter:∀ (f:Value) (h1:Heap) (d:Drawn),(∀ b o,s.heap.get? b=some o->h1.get? b=some o)->s.heap.objs.size<=h1.objs.size->WalkOk prog w knd A' ks a s.heap (h1.push (itObj f 0 a es.size ep)) h1.objs.size->
   wpAny (model prog w) A.in1 (setEpoch a >>= λ e=>newFields "set_iterator" [f,rawInt 0,.ref a,rawInt es.size,rawInt e] >>= λ r=>ret r) (λ fin s'=>∃ r,fin=.done (.ret r)/\∃ T' q,s'.TypeIs r T'/\typeLookup (.type T') "__next__"=pure (some q)/\Q r s') E { s with heap:=h1,drawn:=d }:=λ f h1 d k hz ok=>by
  refine wpAny_bind (wpAny_setEpoch_of (s:={ s with heap:=h1,drawn:=d }) (k _ _ ho) rfl g.fits ?_)
  unfold newFields
  refine wpAny_bind (wpAny_newObj_type ?_ (by size_fits))
  refine wpAny_pure ⟨_,rfl,"set_iterator",_,⟨itObj f 0 a es.size ep,Heap.get?_push_size _ rfl,rfl⟩,slot_si_next.lookup,h _ _ d ok⟩
 have hpush:∀ (f:Value) (h1:Heap),(h1.push (itObj f 0 a es.size ep)).get? h1.objs.size=some (itObj f 0 a es.size ep):=λ f h1=>Heap.get?_push_size _ rfl
 have bt0:(!byText w && (!t.plain && decide (es.size > 1)))=false->wpAny (model prog w) A.in1 (setEpoch a >>= λ e=>newFields "set_iterator" [rawInt 0,rawInt 0,.ref a,rawInt es.size,rawInt e] >>= λ r=>ret r) (λ fin s'=>∃ r,fin=.done (.ret r)/\∃ T' q,s'.TypeIs r T'/\typeLookup (.type T') "__next__"=pure (some q)/\Q r s') E s:=λ hd=>by
  have key:=iter (rawInt 0) s.heap s.drawn (λ _ _ e=>e) (Nat.le_refl _) ?_
  ·exact key
  refine⟨λ b o e=>Heap.get?_push_of_some _ e,?_⟩
  by_cases hbt:byText w=true
  ·refine⟨(pickOrder (w.params.setOrder a ep) es).toList.map (·.2),[s.heap.objs.size,a],λ i h=>h.get? s.heap.objs.size=some (itObj (.int (0:Nat) 0) i a es.size ep)/\h.get? a=some (setObj es ep t),?_,by simp,Nat.le_refl _,?_,⟨hpush _ _,Heap.get?_push_of_some _ ho⟩,?_⟩
   ·intro b hb'
    rcases List.mem_cons.mp hb' with rfl|hb'
    ·exact .inr (Nat.le_refl _)
    ·exact .inl (List.mem_singleton.mp hb')
   ·refine⟨λ b hb'=>by simp at hb' ⊢;exact .inl hb',λ i h h' hs k=>⟨k _ (by simp) _ hs.1,k _ (by simp) _ hs.2⟩,λ i s' Q E hi st hq=>?_,λ s' Q E st hq=>?_,λ i s' Q E st hq=>it_self st.1 hq⟩
    ·rw[List.length_map,Array.length_toList]at hi
     have e1:(pickOrder (w.params.setOrder a ep) es)[i]? = some (pickOrder (w.params.setOrder a ep) es)[i]:=by simp[hi]
     refine it_item (t:=t) (nx:=0) st.1 st.2 g (λ {E' Q'} hq'=>next_text hbt st.2 g (by rw[e1];exact hq')) λ h' e k=>?_
     exact hq _ h' s'.toks (by rw[List.getElem?_map,Array.getElem?_toList,e1];rfl) ⟨e,(k.2 a (Nat.ne_of_lt hla)).trans st.2⟩ λ b o hb' e'=>(k.2 b (by simpa using hb')).trans e'
    ·refine it_done (t:=t) hh st.1 st.2 g (λ {E' Q'} hq'=>next_text hbt st.2 g (by rw[Array.getElem?_eq_none (by simp)];exact hq')) λ h' k=>?_
     exact hq h' s'.toks λ b o hb' e'=>k b o (by simpa using hb') e'
   ·obtain⟨k2,p2,q2⟩:=Keys.perm ((pick_perm (w.params.setOrder a ep) es).map (·.2)) hK
    exact⟨k2,q2,p2.trans hp⟩
  ·have hbt:byText w=false:=by simpa using hbt
   have hd2:(!t.plain && decide (es.size > 1))=false:=by rw[hbt]at hd;simpa using hd
   have hpz:t.place.size=es.size:=by have:=g.fits;simp only[SetTable.fits,Bool.and_eq_true,beq_iff_eq]at this;exact this.1
   have hr:Rise t.place:=by
    cases hpl:t.plain with
    | true=>exact g.rise hpl
    | false=>
     rw[hpl]at hd2
     simp at hd2
     intro i j x y hij ex ey
     have:=(Array.getElem?_eq_some_iff.mp ey).1
     omega
   refine⟨es.toList.map (·.2),[s.heap.objs.size,a],λ i h=>∃ sl:Nat,h.get? s.heap.objs.size=some (itObj (.int sl 0) i a es.size ep)/\h.get? a=some (setObj es ep t)/\SetTable.below t.place sl=i,?_,by simp,Nat.le_refl _,?_,⟨0,hpush _ _,Heap.get?_push_of_some _ ho,below_eq hr (Nat.zero_le _) (λ k b hk=>absurd hk (Nat.not_lt_zero _)) λ k b _ _=>Nat.zero_le _⟩,⟨ks',hK,hp⟩⟩
   ·intro b hb'
    rcases List.mem_cons.mp hb' with rfl|hb'
    ·exact .inr (Nat.le_refl _)
    ·exact .inl (List.mem_singleton.mp hb')
   ·refine⟨λ b hb'=>by simp at hb' ⊢;exact .inl hb',λ i h h' ⟨sl,h1,h2,h3⟩ k=>⟨sl,k _ (by simp) _ h1,k _ (by simp) _ h2,h3⟩,λ i s' Q E hi ⟨sl,h1,h2,h3⟩ hq=>?_,λ s' Q E ⟨sl,h1,h2,h3⟩ hq=>?_,λ i s' Q E ⟨sl,h1,h2,h3⟩ hq=>it_self h1 hq⟩
    ·rw[List.length_map,Array.length_toList]at hi
     have e1:es[i]? = some es[i]:=by simp[hi]
     have e2:t.place[i]? = some (t.place[i]'(by omega)):=by simp[hpz,hi]
     generalize t.place[i]'(by omega)=pl at e2
     refine it_item (t:=t) (nx:=pl+1) h1 h2 g (λ {E' Q'} hq'=>next_place hbt h2 g hd2 (by rw[h3,e1,e2];exact hq')) λ h' e k=>?_
     refine hq _ h' s'.toks (by rw[List.getElem?_map,Array.getElem?_toList,e1];rfl) ⟨pl+1,e,(k.2 a (Nat.ne_of_lt hla)).trans h2,below_eq hr (by omega) (λ m b hm eb=>?_) λ m b hm eb=>?_⟩ λ b o hb' e'=>(k.2 b (by simpa using hb')).trans e'
     ·rcases Nat.lt_or_ge m i with q|q
      ·exact Nat.lt_succ_of_lt (hr m i b pl q eb e2)
      ·have:m=i:=by omega
       subst this
       rw[e2]at eb;cases eb;exact Nat.lt_succ_self _
     ·exact hr i m pl b (by omega) e2 eb
    ·rw[List.length_map,Array.length_toList]at h3 h1
     refine it_done (t:=t) hh h1 h2 g (λ {E' Q'} hq'=>next_place hbt h2 g hd2 (by rw[h3,Array.getElem?_eq_none (Nat.le_refl _)];exact hq')) λ h' k=>?_
     exact hq h' s'.toks λ b o hb' e'=>k b o (by simpa using hb') e'
 split
 ·rename_i hd
  refine wpAny_bind (draw_perm _ _ _ (by simp) λ ps d hps=>?_)
  refine wpAny_bind (wpAny_newTuple ?_ (by rw[List.length_map,hps.length_eq,List.length_range];exact fits_of_scanBound hb))
  have key:=iter (.ref s.heap.objs.size) (s.heap.push { cls:=.type "tuple",data:=.seq (ps.map λ(i:Nat)=>rawInt i).toArray }) d (λ b o e=>Heap.get?_push_of_some _ e) (by rw[Heap.size_push];exact Nat.le_succ _) ?_
  ·exact key
  have htp:(s.heap.push { cls:=.type "tuple",data:=.seq (ps.map λ(i:Nat)=>rawInt i).toArray }).get? s.heap.objs.size=some { cls:=.type "tuple",data:=.seq (ps.map λ(i:Nat)=>rawInt i).toArray }:=Heap.get?_push_size _ rfl
  generalize hh1:s.heap.push { cls:=.type "tuple",data:=.seq (ps.map λ(i:Nat)=>rawInt i).toArray }=h1 at htp
  have old1:∀ b o,s.heap.get? b=some o->h1.get? b=some o:=λ b o e=>by rw[<-hh1];exact Heap.get?_push_of_some _ e
  have hz1:h1.objs.size=s.heap.objs.size+1:=by rw[<-hh1,Heap.size_push]
  have inr:∀ p∈ps,p < es.size:=λ p hp'=>by have:=hps.mem_iff.mp hp';simpa using this
  refine⟨λ b o e=>Heap.get?_push_of_some _ (old1 b o e),ps.map λ p=>((es[p]?).map (·.2)).getD .none,[h1.objs.size,a,s.heap.objs.size],λ i h=>h.get? h1.objs.size=some (itObj (.ref s.heap.objs.size) i a es.size ep)/\h.get? a=some (setObj es ep t)/\h.get? s.heap.objs.size=some { cls:=.type "tuple",data:=.seq (ps.map λ(i:Nat)=>rawInt i).toArray },?_,by simp,by omega,?_,⟨hpush _ _,Heap.get?_push_of_some _ (old1 _ _ ho),Heap.get?_push_of_some _ htp⟩,?_⟩
  ·intro b hb'
   simp only[List.mem_cons,List.not_mem_nil,or_false]at hb'
   rcases hb' with rfl|rfl|rfl
   ·exact .inr (by omega)
   ·exact .inl rfl
   ·exact .inr (Nat.le_refl _)
  ·refine⟨λ b hb'=>by simp at hb' ⊢;exact .inl hb',λ i h h' hs k=>⟨k _ (by simp) _ hs.1,k _ (by simp) _ hs.2.1,k _ (by simp) _ hs.2.2⟩,λ i s' Q E hi st hq=>?_,λ s' Q E st hq=>?_,λ i s' Q E st hq=>it_self st.1 hq⟩
   ·rw[List.length_map]at hi
    have e1:ps[i]? = some ps[i]:=by simp[hi]
    have e2:es[ps[i]]? = some (es[ps[i]]'(inr _ (List.getElem_mem hi))):=by simp[inr _ (List.getElem_mem hi)]
    refine it_itemD (t:=t) st.1 st.2.1 g st.2.2 e1 e2 λ h' e k=>?_
    refine hq _ h' s'.toks ?_ ⟨e,(k.2 a (Nat.ne_of_lt (by rw[hz1];exact Nat.lt_succ_of_lt hla))).trans st.2.1,(k.2 _ (Nat.ne_of_lt (by rw[hz1];exact Nat.lt_succ_self _))).trans st.2.2⟩ λ b o hb' e'=>(k.2 b (by simpa using hb')).trans e'
    show(ps.map λ p=>((es[p]?).map (·.2)).getD .none)[i]? = _
    rw[List.getElem?_map,e1]
    show some ((Option.map (·.2) es[ps[i]]?).getD .none)=_
    rw[e2];rfl
   ·rw[List.length_map]at st
    refine it_doneD (t:=t) hh st.1 st.2.1 g st.2.2 (by simp) λ h' k=>?_
    exact hq h' s'.toks λ b o hb' e'=>k b o (by simpa using hb') e'
  ·have e1:(List.range es.size).map (λ p=>((es[p]?).map (·.2)).getD .none)=es.toList.map (·.2):=by
    apply List.ext_getElem?
    intro i
    by_cases hi:i < es.size
    ·simp[hi]
    ·simp[hi]
   have pp:(ps.map λ p=>((es[p]?).map (·.2)).getD .none).Perm (es.toList.map (·.2)):=by rw[<-e1];exact hps.map _
   obtain⟨k2,p2,q2⟩:=Keys.perm pp hK
   exact⟨k2,q2,p2.trans hp⟩
 ·rename_i hd
  refine wpAny_bind (wpAny_pure ?_)
  exact bt0 (by simpa using hd)
end
end Sx
namespace Sx
open PySem PyProof.Rows
def uniq {K:Type} [DecidableEq K] (ks:List K):List K:=ks.foldl insK []
theorem insK_nodup {K:Type} [DecidableEq K] {ks:List K}{k:K}(h:ks.Nodup):(insK ks k).Nodup:=by
 unfold insK
 split
 ·exact h
 ·exact List.nodup_append.mpr ⟨h,by simp,λ z hz y hy e=>by rw[List.mem_singleton.mp hy]at e;subst e;contradiction⟩
theorem insK_len {K:Type} [DecidableEq K] {ks:List K}{k:K}:(insK ks k).length<=ks.length+1:=by
 unfold insK
 split
 ·omega
 ·simp
section
variable {prog:Program}{w:World}{K:Type} [DecidableEq K] {knd:PySem.KeyKind prog w K}{A:Around}{E:Value->Shared->Prop}{s:Shared}{a:Addr}{ks:List K}
theorem hint_set (hT:s.TypeIs (.ref a) "set") {Q:Bool->Shared->Prop}(h:Q false s):wpAny (model prog w) A (Builtin.List.listLengthHint (.ref a)) Q E s:=by
 unfold Builtin.List.listLengthHint
 refine wpAny_bind (wpAny_specialOf hT F.slot_set_len.lookup ?_)
 generalize he:("set.__len__":String)=nm
 wp_delta
 rw[show splitId nm=some ("set","__len__") from by rw[<-he];decide +kernel]
 subst he
 refine wpAny_bind (wpAny_isInstance (T:="set") (b:=true) hT sub_set_self ?_)
 refine wpAny_ite_split (λ z=>absurd z (by decide)) λ _=>?_
 refine wpAny_ite_split (λ _=>wpAny_bind (wpAny_typeOf hT (wpAny_pure h))) λ z=>absurd (by decide +kernel) z
theorem set_collect {R:List Value->Shared->Prop}(hh:A.handled=none)(hS:SetK knd s.heap a ks)
  (h:∀ h' tk d vs ks',(∀ b o,s.heap.get? b=some o->h'.get? b=some o)->Keys knd vs ks'->ks'.Perm ks->R vs { s with heap:=h',toks:=tk,drawn:=d }):wpAny (model prog w) A (collect (.ref a)) R E s:=by
 have hla:=hS.lt
 unfold collect
 refine wpAny_bind (wpAny_runValue (codeAny_builtin PySem.F.entry_proto_collect ?_))
 rw[Around.under_plainId PySem.F.plain_proto_collect _]
 show wpAny _ A.in1 (newList [] >>= λ l=>again (.builtin "list.__iadd__" ⟨[l,.ref a],[]⟩)) _ _ s
 refine wpAny_bind (wpAny_newObj_type ?_)
 refine wpAny_pure ⟨plainId_quiet PySem.F.plain_list_iadd _,codeAny_builtin PySem.F.entry_list_iadd ?_⟩
 rw[Around.under_plainId PySem.F.plain_list_iadd _]
 have nw:(s.heap.push { cls:=.type "list",data:=.seq ([]:List Value).toArray }).get? s.heap.objs.size=some { cls:=.type "list",data:=.seq #[] }:=Heap.get?_push_size _ rfl
 have o1:∀ b o,s.heap.get? b=some o->(s.heap.push { cls:=.type "list",data:=.seq ([]:List Value).toArray }).get? b=some o:=λ b o e=>Heap.get?_push_of_some _ e
 have z1:(s.heap.push { cls:=.type "list",data:=.seq ([]:List Value).toArray }).objs.size=s.heap.objs.size+1:=Heap.size_push ..
 generalize (s.heap.push { cls:=.type "list",data:=.seq ([]:List Value).toArray })=h1 at nw o1 z1 ⊢
 have S1:SetK knd h1 a ks:=hS.keep λ o e=>o1 a o e
 show wpAny _ A.in1 (Builtin.List.listExtendWith (.ref s.heap.objs.size) (.ref a) (.ref s.heap.objs.size)) _ _ { s with heap:=h1 }
 unfold Builtin.List.listExtendWith
 refine wpAny_bind (wpAny_typeOf (s:={ s with heap:=h1 }) S1.typeIs ?_)
 have n1:Builtin.List.listSameRef (.ref s.heap.objs.size) (.ref a)=false:=by simp[Builtin.List.listSameRef];exact λ z=>Nat.lt_irrefl _ (z ▸ hla)
 have n2:(Value.type "set" == Value.type "list")=false:=by decide
 have n3:(Value.type "set" == Value.type "tuple")=false:=by decide
 simp only[n1,n2,n3,Bool.or_false,Bool.false_eq_true,if_false]
 refine wpAny_bind (set_iter (s:={ s with heap:=h1 }) (A':=A.in1) hh S1 λ I h2 d ⟨o2,L,fp,St,f1,f2,f3,W,st,kk⟩=>?_)
 have S2:SetK knd h2 a ks:=S1.keep λ o e=>o2 a o e
 have nS:s.heap.objs.size∉fp:=λ z=>by
  rcases f1 _ z with e|e
  ·rw[e]at hla;exact Nat.lt_irrefl _ hla
  ·have e:h1.objs.size<=s.heap.objs.size:=e
   omega
 refine wpAny_bind (wpAny_holding (hint_set (s:={ s with heap:=h2,drawn:=d }) S2.typeIs ?_))
 have nw2:=o2 _ _ nw
 have lp:∀ (h3:Heap) (c:Nat),(∀ b o,b≠s.heap.objs.size->h2.get? b=some o->h3.get? b=some o)->h3.get? s.heap.objs.size=some { cls:=.type "list",dict:=none,data:=.seq #[] c,slots:=#[] }->
   codeAny (model prog w) A (.builtin "list.extend.loop" ⟨[.ref s.heap.objs.size,.ref I,.ref s.heap.objs.size],[]⟩) (λ r s'=>match r with
    | .ok f=>(match f with|.ret v=>wpAny (model prog w) A (match v with|.ref a=>(load a >>= λ o=>match o.data with|.seq xs _=>pure xs.toList|_=>unsupported "internal:collect")|_=>unsupported "internal:collect") R E s'|_=>False)
    | .error x=>E x s') { s with heap:=h3,drawn:=d }:=λ h3 c k3 e3=>by
  obtain⟨ks',q1,q2⟩:=kk
  have hll:L.length<=sizeLine:=by
   rw[q1.length,q2.length_eq]
   obtain⟨es,_,_,ks2,_,_,hb,_,hK,hp,_⟩:=hS
   have hz:es.size=ks.length:=by rw[<-hp.length_eq,<-hK.length,List.length_map,Array.length_toList]
   rw[<-hz]
   exact fits_of_scanBound hb
  refine codeAny_extend_loopS W.toS hll _ nS _ L.length 0 _ #[] c rfl (Nat.zero_le _) (W.frame 0 h2 h3 st λ b hb o e=>k3 b o (λ z=>nS (z ▸ hb)) e) e3 (ItemsOf.nil _) λ s' acc c' mv e4 it=>?_
  obtain⟨h',g',d',tk',os'⟩:=s'
  have eg:g'=s.gens:=mv.gens
  have ed:d'=d:=mv.drawn
  have eo:os'=s.os:=mv.os
  subst eg ed eo
  show wpAny _ A (load s.heap.objs.size >>= _) _ _ _
  refine wpAny_bind (wpAny_load e4 (wpAny_pure ?_))
  have ea:acc.toList=L:=List.ext_getElem? λ j=>by
   by_cases hj:j < acc.size
   ·have:=it.2 j acc[j] (by simp[hj])
    rw[this];simp[hj]
   ·rw[List.getElem?_eq_none (by simpa using hj),List.getElem?_eq_none (by rw[<-it.1];omega)]
  refine h h' tk' d' acc.toList ks' (λ b o e=>?_) (by rw[ea];exact q1) q2
  have hb:b≠s.heap.objs.size:=Nat.ne_of_lt (Heap.lt_size e)
  have hb2:b≠I:=λ z=>by
   have h5:=Heap.lt_size (o1 b o e)
   rw[z]at h5
   exact absurd h5 (Nat.not_lt.mpr f3)
  exact mv.heap b o (by simp[hb,hb2]) (k3 b o hb (o2 b o (o1 b o e)))
 refine wpAny_ite_split (λ _=>?_) λ _=>wpAny_pure ⟨plainId_quiet PySem.F.plain_extend_loop _,codeAny_mono (lp h2 0 (λ _ _ _ e=>e) nw2) (λ r s' hr=>by cases r with|ok f=>(cases f with|ret v=>exact hr|_=>exact hr.elim)|error x=>exact hr)⟩
 refine wpAny_bind (wpAny_rule (wpAny_bind ?_))
 show wpAny _ _ (updateSeq s.heap.objs.size (·.push .none) >>= λ _=>updateSeq s.heap.objs.size (·.pop)) _ _ { s with heap:=h2,drawn:=d }
 refine wpAny_bind (wpAny_updateSeq nw2 rfl ?_)
 have u1:=Heap.get?_update_self (Obj.mapSeq (·.push Value.none)) nw2 rfl
 refine wpAny_updateSeq (hz:=by seq_fits) u1 rfl ?_
 exact wpAny_pure ⟨plainId_quiet PySem.F.plain_extend_loop _,codeAny_mono (lp _ _ (λ b o hb e=>(Heap.get?_update_other _ _ (Ne.symm hb)).trans ((Heap.get?_update_other _ _ (Ne.symm hb)).trans e)) (Heap.get?_update_self (Obj.mapSeq (·.pop)) u1 rfl)) (λ r s' hr=>by cases r with|ok f=>(cases f with|ret v=>exact hr|_=>exact hr.elim)|error x=>exact hr)⟩
end
end Sx
namespace Sx
open PySem PyProof.Rows
section
variable {prog:Program}{w:World}{K:Type} [DecidableEq K] {knd:PySem.KeyKind prog w K}{A:Around}{R:Result->Shared->Prop}{I:Addr}{fp wr:List Addr}{G:Array GenState->Array GenState->Prop}{n:Nat}{P:Nat->Value->Prop}{St:Nat->Shared->Prop}
theorem fill_loop (W:WalksS prog w A.in1 I fp wr G n P St){D:Addr}(hD:D∉fp){all:List K}(hn:all.length=n)(hP:∀ i v,P i v->∃ k,all[i]? = some k/\knd.is k v=true/\v.scannable=true)(hb:n+1 < scanBound) :
  ∀ (m i:Nat) (s:Shared) (ks:List K),n - i=m->i<=n->St i s->SetK knd s.heap D ks->ks.length<=i->(∀ s',Moved (D :: wr) G s s'->SetK knd s'.heap D ((all.drop i).foldl insK ks)->R (.ok (.ret .none)) s')->
   codeAny (model prog w) A (.builtin "set.update.loop" ⟨[.ref D,.ref I],[]⟩) R s:=by
 have nw:D∉wr:=λ z=>hD (W.sub _ z)
 have sub:∀ b∈wr,b∈D :: wr:=λ b z=>List.mem_cons_of_mem _ z
 intro m
 induction m with
 | zero=>
  intro i s ks hm hi st hS hl q
  have:i=n:=by omega
  subst this
  refine codeAny_builtin PyProof.Rows.F.entry_set_update_loop ?_
  rw[Around.under_plainId PyProof.Rows.F.plain_set_update_loop _]
  refine wpAny_bind (m:=pyNext (.ref I)) (W.done s _ _ st λ s' mv=>?_)
  show wpAny _ A.in1 (ret Value.none) _ _ s'
  refine wpAny_pure (q s' (mv.mono sub) ?_)
  rw[<-hn,List.drop_length]
  exact hS.keep λ o e=>mv.heap D o nw e
 | succ m ih=>
  intro i s ks hm hi st hS hl q
  have hlt:i < n:=by omega
  refine codeAny_builtin PyProof.Rows.F.entry_set_update_loop ?_
  rw[Around.under_plainId PyProof.Rows.F.plain_set_update_loop _]
  refine wpAny_bind (m:=pyNext (.ref I)) (W.item i s _ _ hlt st λ v s' pv st' mv=>?_)
  obtain⟨k,e1,e2,e3⟩:=hP i v pv
  have S':SetK knd s'.heap D ks:=hS.keep λ o e=>mv.heap D o nw e
  show wpAny _ A.in1 (holding [v] (setAdd D v) >>= _) _ _ s'
  refine wpAny_bind (wpAny_holding ?_)
  unfold setAdd
  refine wpAny_holding (wpAny_bind (knd.pyHash e2 ?_))
  refine set_addH (s:={ s' with toks:=s'.toks+1 }) e2 e3 S' (by omega) λ h' b sb S2=>?_
  have hd:all.drop i=k :: all.drop (i+1):=by
   rw[List.drop_eq_getElem_cons (by omega)]
   congr 1
   have:=List.getElem?_eq_getElem (l:=all) (i:=i) (by omega)
   rw[this]at e1;cases e1;rfl
  refine wpAny_pure ⟨plainId_quiet PyProof.Rows.F.plain_set_update_loop _,ih (i+1) _ (insK ks k) (by omega) hlt (W.frame _ s' _ _ st' (Nat.le_succ _) λ b z o e=>?_) S2 (Nat.le_trans insK_len (by omega)) λ s2 mv2 S3=>?_⟩
  ·rw[sb.2 b λ y:b=D=>hD (by rw[<-y];exact z)];exact e
  ·refine q s2 (Moved.trans W.gtrans ((mv.mono sub).then_heap (Nat.le_succ _) λ b o z e=>?_) mv2) (by rw[hd];exact S3)
   rw[sb.2 b λ y:b=D=>z (by rw[y];exact List.mem_cons_self)];exact e
end
section
variable {prog:Program}{w:World}{K:Type} [DecidableEq K] {knd:PySem.KeyKind prog w K}{A:Around}{E:Value->Shared->Prop}{s:Shared}
theorem made_set (x:Value){Q:Value->Shared->Prop}(h:Q (.ref s.heap.objs.size) { s with heap:=s.heap.push (setObj #[] 0 (.fresh 0 0 (!byText w))) }) :
  codeAny (model prog w) A (.call (.builtin "set.__new__") ⟨[.type "set",x],[]⟩) (wants Q E) s:=by
 refine codeAny_of_tree ?_
 refine wpAny_bind (m:=checkBuiltinCall _ _) (wpAny_of_eq (PySem.F.newCall_set_1 x) (wpAny_pure ⟨plainId_quiet PySem.F.plain_set_new _,codeAny_builtin PySem.F.entry_set_new ?_⟩))
 rw[Around.under_plainId PySem.F.plain_set_new _]
 unfold Builtin.«set.__new__» Builtin.Frozenset.newClass
 have sub:=sub_set_self
 obtain⟨hp,g,d,tk,os⟩:=s
 dsimp only
 wp_walk
 refine wpAny_askSetting (wpAny_pure ?_)
 dsimp only
 simp only[newObj]
 exact wpAny_bind (wpAny_alloc (wpAny_pure (wpAny_pure h)))
theorem set_of_list {l:Addr}{its:Array Value}{all:List K}{Q:Value->Shared->Prop}(hh:A.handled=none)(hl:s.heap.IsList l its)(hk:Keys knd its.toList all)(hsc:∀ v∈its.toList,v.scannable=true)(hb:its.size+1 < scanBound)
  (h:∀ h' tk,SetK knd h' s.heap.objs.size (uniq all)->(∀ b o,s.heap.get? b=some o->h'.get? b=some o)->Q (.ref s.heap.objs.size) { s with heap:=h',toks:=tk }) :
  wpAny (model prog w) A (call (.type "set") [.ref l]) Q E s:=by
 have F0:=PySem.F.called_set
 obtain⟨c,tl,mro⟩:=F0.mro
 have md:=F0.made
 have sb:=F0.sub
 have nt:=F0.notType
 have cc:=F0.canCreate
 have ck:=PySem.F.typeCall_set_1 (.ref l)
 refine wpAny_call (codeAny_of_tree (wpAny_pure ⟨Code.quiet_builtin _ (by decide +kernel),codeAny_builtin PySem.F.entry_type_call ?_⟩))
 rw[Around.under_plain (weight_type_call_type "set" [.ref l] []) rfl]
 repeat (any_goals (first|assumption|wp_step))
 refine codeAny_mono (made_set (.ref l) (E:=E) (Q:=λ v s1=>v=.ref s.heap.objs.size/\s1={ s with heap:=s.heap.push (setObj #[] 0 (.fresh 0 0 (!byText w))) }) ⟨rfl,rfl⟩) λ r s1 hr=>?_
 cases r with
 | error x=>exact hr
 | ok f=>
  cases f with
  | ret v=>
   obtain⟨rfl,rfl⟩:=hr
   have nw:(s.heap.push (setObj #[] 0 (.fresh 0 0 (!byText w)))).get? s.heap.objs.size=some (setObj #[] 0 (.fresh 0 0 (!byText w))):=Heap.get?_push_size _ rfl
   have hT:Shared.TypeIs { s with heap:=s.heap.push (setObj #[] 0 (.fresh 0 0 (!byText w))) } (.ref s.heap.objs.size) "set":=⟨_,nw,rfl⟩
   have li:=F0.init.lookup
   have bi:=F0.init.bind (.ref s.heap.objs.size)
   repeat (any_goals (first|assumption|wp_step))
   refine codeAny_mono (codeAny_call_builtin (R:=wants (λ r s2=>r=.none/\Q (.ref s.heap.objs.size) s2) E) F0.init.plain PySem.F.entry_set_init (check_set_init_1 hT ?_)) λ r2 s2 hr2=>?_
   ·obtain⟨ol,h1,h2,nl,h3⟩:=id hl
    obtain⟨oc,od,odt,osl⟩:=ol
    simp only at h2 h3
    subst h2 h3
    have hol:(s.heap.push (setObj #[] 0 (.fresh 0 0 (!byText w)))).get? l=some { cls:=.type "list",dict:=od,data:=.seq its nl,slots:=osl }:=Heap.get?_push_of_some _ h1
    have q1:=PySem.F.sub_list_set
    have q2:=PySem.F.sub_list_frozenset
    have q3:(Value.type "list" == Value.type "dict")=false:=by decide
    have il:(s.heap.push (setObj #[] 0 (.fresh 0 0 (!byText w)))).IsList l its:=⟨_,hol,rfl,nl,rfl⟩
    unfold Builtin.«set.__init__» noKeywords Builtin.Frozenset.updateFrom
    generalize hPI:pyIter=PI
    wp_walk
    subst hPI
    refine wpAny_pyIter_list il (wpAny_bind (wpAny_runValue ?_))
    have lz:l < s.heap.objs.size:=Heap.lt_size h1
    have hz:(s.heap.push (setObj #[] 0 (.fresh 0 0 (!byText w)))).objs.size=s.heap.objs.size+1:=Heap.size_push ..
    have ne:l≠(s.heap.push (setObj #[] 0 (.fresh 0 0 (!byText w)))).objs.size:=by rw[hz];exact Nat.ne_of_lt (Nat.lt_succ_of_lt lz)
    have nf:s.heap.objs.size∉[(s.heap.push (setObj #[] 0 (.fresh 0 0 (!byText w)))).objs.size,l]:=by
     rw[hz];simp only[List.mem_cons,List.not_mem_nil,or_false,not_or]
     exact⟨Nat.ne_of_lt (Nat.lt_succ_self _),Nat.ne_of_gt lz⟩
    have h3':A.in1.in1.in1.handled=none:=by simp[hh]
    have hlen:all.length=its.size:=by rw[<-hk.length,Array.length_toList]
    have at_:∀ (vs:List Value) (ks:List K),Keys knd vs ks->∀ (i:Nat) v,vs[i]? = some v->∃ k,ks[i]? = some k/\knd.is k v=true:=by
     intro vs
     induction vs with
     | nil=>intro ks _ i v e;simp at e
     | cons u vs ih=>
      intro ks hk i v e
      cases ks with
      | nil=>exact hk.elim
      | cons k ks=>
       cases i with
       | zero=>simp at e;subst e;exact⟨k,rfl,hk.1⟩
       | succ i=>exact ih ks hk.2 i v (by simpa using e)
    refine fill_loop (knd:=knd) (Walks.list h3' _ l ne its).toS nf hlen (λ i v e=>?_) hb its.size 0 _ [] (Nat.sub_zero _) (Nat.zero_le _) ⟨⟨_,Heap.get?_push_size _ rfl,rfl,rfl⟩,il.push _⟩
     ⟨#[],0,_,[],Heap.get?_push_of_some _ nw,good_fresh _,by decide,λ e he=>by simp at he,trivial,.refl _,List.nodup_nil⟩ (Nat.zero_le _) λ s' mv S'=>?_
    ·have e':its.toList[i]? = some v:=by rw[Array.getElem?_toList];exact e
     obtain⟨k,e1,e2⟩:=at_ _ _ hk i v e'
     exact⟨k,e1,e2,hsc v (List.mem_of_getElem? e')⟩
    ·obtain⟨h',g',d',tk',os'⟩:=s'
     have eg:g'=s.gens:=mv.gens
     have ed:d'=s.drawn:=mv.drawn
     have eo:os'=s.os:=mv.os
     subst eg ed eo
     refine wpAny_pure (wpAny_pure ⟨rfl,h h' tk' S' λ b o e=>?_⟩)
     have b1:b < s.heap.objs.size:=Heap.lt_size e
     refine mv.heap b o (by rw[hz];simp only[List.mem_cons,List.not_mem_nil,or_false,not_or];exact⟨Nat.ne_of_lt b1,Nat.ne_of_lt (Nat.lt_succ_of_lt b1)⟩) (Heap.get?_push_of_some _ (Heap.get?_push_of_some _ e))
   ·cases r2 with
    | error x=>exact hr2
    | ok f2=>
     cases f2 with
     | ret r=>
      obtain⟨rfl,q⟩:=hr2
      repeat (any_goals (first|assumption|wp_step))
     | _=>exact hr2.elim
  | _=>exact hr.elim
end
end Sx
namespace L2
open PySem PySem.Spec PyProof.Rows
section
variable {X:Cx}{elt tg iter tg1 iter1:Expr}{ifs ifs1:List Expr}{scope:Scope}{pos:Pos}{wi wi1:TI}{g g1:TG}{tt tt1:TT}{te:TE}
end
end L2
namespace L2
open PySem PySem.Spec PyProof.Rows Sx
def setO {P:Program}{w:World}{K:Type} [DecidableEq K] (knd:PySem.KeyKind P w K)(d:Addr)(ks:List K):HO:=.ext λ h=>SetK knd h d ks
theorem setO_ok {P:Program}{w:World}{K:Type} [DecidableEq K] {knd:PySem.KeyKind P w K}{d:Addr}{ks:List K}{H:Hp}{h:Heap}(hS:SetK knd h d ks):ObjOk P w H h d (setO knd d ks):=
 ⟨hS,let ⟨_,_,_,_,ho,_⟩:=hS;⟨_,ho⟩,λ _ _ a k=>a.keep k⟩
structure Enc {P:Program}{w:World}{K:Type} [DecidableEq K] (knd:PySem.KeyKind P w K)(enc:K->V):Prop where
 is:∀ k u,RelV (enc k) u->knd.is k u=true/\u.scannable=true
theorem encS {P:Program}{w:World}:Enc (strKind P w) V.str:=⟨λ k u ⟨t,e⟩=>by subst e;exact⟨strKind_is P w k t,rfl⟩⟩
theorem Inv.drawn {X:Cx}{pins:List (Addr × Obj)}{σ:St}{H:Hp}{s:Shared}(I:Inv X pins σ H s)(d:Drawn):Inv X pins σ H { s with drawn:=d }:=⟨I.ok,I.os,I.bare,I.base,I.loc,I.cell,I.free,I.freeC,I.pin,I.hok,I.len⟩
section
variable {K:Type} [DecidableEq K] {enc:K->V}
theorem keys_of {P:Program}{w:World}{knd:PySem.KeyKind P w K}(he:Enc knd enc):∀ {ks:List K}{us:List Value},Vals (ks.map enc) us->Keys knd us ks/\∀ v∈us,v.scannable=true
 | [],_,.nil=>⟨trivial,λ _ z=>nomatch z⟩
 | k :: ks,_,.cons r h=>by
  obtain⟨q1,q2⟩:=keys_of he h
  obtain⟨p1,p2⟩:=he.is k _ r
  refine⟨⟨p1,q1⟩,λ v hv=>?_⟩
  rcases List.mem_cons.mp hv with rfl|hv
  ·exact p2
  ·exact q2 v hv
def rSet {P:Program}{w:World}(knd:PySem.KeyKind P w K)(enc:K->V):List V->Hp->VK->Prop:=λ xs H Q=>∃ (l:Addr) (ks:List K),xs=[.ref l]/\H l=some (.lst (ks.map enc))/\ks.length+1 < scanBound/\∀ d,H d=none->Q (.ref d) (upd H d (setO knd d (uniq ks)))
theorem call_setOf {X:Cx}(hc:X.calm=true){knd:PySem.KeyKind X.prog X.w K}(he:Enc knd enc):CallR X (.type "set") (rSet knd enc):=by
 rintro pins s σ H xs us Q I rv ⟨l,ks,rfl,hH,hb,q⟩
 obtain⟨u,rfl,ru⟩:=rv.one
 cases (show u=Value.ref l from ru)
 obtain⟨z,its,n,r,hl,e⟩:=I.lstM hH
 obtain⟨k1,k2⟩:=keys_of he r
 have hz:its.length=ks.length:=k1.length
 refine set_of_list (knd:=knd) (its:=its.toArray) (I.ok.hd hc) ⟨_,e,rfl,n,rfl⟩ (by simpa using k1) (by simpa using k2) (by rw[List.size_toArray,hz];exact hb) λ h' tk hS k=>?_
 exact⟨.ref s.heap.objs.size,_,I.laid (a:=s.heap.objs.size) (o:=setO knd s.heap.objs.size (uniq ks)) (t':=tk) k (Nat.le_refl _) (setO_ok hS),rfl,q _ (I.hok.fresh (Nat.le_refl _))⟩
end
section
variable {X:Cx}{elt tg iter:Expr}{ifs:List Expr}{scope:Scope}{pos:Pos}{wi:TI}{g:TG}{tt:TT}{te:TE}
end
end L2
namespace Mm
open PySem L2 Sx
theorem fold_len {K:Type} [DecidableEq K]:∀ (l ks:List K),(l.foldl insK ks).length<=ks.length+l.length
 | [],ks=>Nat.le_refl _
 | a :: r,ks=>by
  have h1:=fold_len r (insK ks a)
  have h2:(insK ks a).length<=ks.length+1:=insK_len
  simp only[List.foldl_cons,List.length_cons]
  omega
theorem boot_max:bootBuiltins "max"=some (.builtin "max"):=by decide +kernel
theorem boot_set:bootBuiltins "set"=some (.type "set"):=by decide +kernel
theorem small64 {n:Nat}(h:n < 64):n+1 < scanBound:=by unfold scanBound;omega
section
variable {T:Tx}{XE:XEt}{X:Cx}{pos:Pos}
end
end Mm
namespace Mm
open PySem L2
theorem szl {n:Nat}(h:n<=1000):n<=sizeLine:=Nat.le_of_lt (small1000 h)
def R.wp {α:Type}:R α->(α->S->Prop)->Prop
 | .ok a s,Q=>Q a s
 | _,_=>False
def RS.wp:RS->(En->S->Prop)->(AV->S->Prop)->Prop
 | .nx e s,N,_=>N e s
 | .rt v s,_,T=>T v s
 | _,_,_=>False
theorem R.wp.mono {α:Type}{m:R α}{Q Q':α->S->Prop}(h:m.wp Q)(k:∀ a s,Q a s->Q' a s):m.wp Q':=by
 cases m with
 | ok a s=>exact k a s h
 | ex c s=>exact h.elim
 | bad=>exact h.elim
theorem RS.wp.mono {m:RS}{N N':En->S->Prop}{T T':AV->S->Prop}(h:m.wp N T)(k:∀ a s,N a s->N' a s)(l:∀ a s,T a s->T' a s):m.wp N' T':=by
 cases m with
 | nx a s=>exact k a s h
 | rt a s=>exact l a s h
 | _=>exact h.elim
theorem R.wp.get {α:Type}{m:R α}{Q:α->S->Prop}(h:m.wp Q):∃ a s,m=.ok a s/\Q a s:=by
 cases m with
 | ok a s=>exact⟨a,s,rfl,h⟩
 | ex c s=>exact h.elim
 | bad=>exact h.elim
theorem R.wp.eq {α:Type}{m:R α}{v:α}{s:S}(h:m.wp (λ a s'=>a=v/\s'=s)):m=.ok v s:=by
 obtain⟨a,s',e,rfl,rfl⟩:=h.get;exact e
theorem wp_ok {α:Type}(a:α)(s:S)(Q:α->S->Prop):(R.ok a s).wp Q=Q a s:=rfl
theorem wp_bind {α β:Type}(m:R α)(f:α->S->R β)(Q:β->S->Prop):(m.bind f).wp Q=m.wp λ a s=>(f a s).wp Q:=by
 cases m<;>rfl
theorem wp_bindS {α:Type}(m:R α)(f:α->S->RS)(N:En->S->Prop)(T:AV->S->Prop):(m.bindS f).wp N T=m.wp λ a s=>(f a s).wp N T:=by
 cases m<;>rfl
theorem wp_calm {α:Type}(m:R α)(Q:α->S->Prop):m.calm.wp Q=m.wp Q:=by
 cases m<;>rfl
theorem wp_if {α:Type}(c:Prop){_:Decidable c}(m:R α)(Q:α->S->Prop):(if c then m else .bad).wp Q=(c/\m.wp Q):=by
 by_cases h:c
 ·rw[if_pos h];exact propext ⟨λ k=>⟨h,k⟩,λ k=>k.2⟩
 ·rw[if_neg h];exact propext ⟨λ k=>k.elim,λ k=>(h k.1).elim⟩
theorem wp_ifS (c:Prop){_:Decidable c}(m:RS)(N:En->S->Prop)(T:AV->S->Prop):(if c then m else .bad).wp N T=(c/\m.wp N T):=by
 by_cases h:c
 ·rw[if_pos h];exact propext ⟨λ k=>⟨h,k⟩,λ k=>k.2⟩
 ·rw[if_neg h];exact propext ⟨λ k=>k.elim,λ k=>(h k.1).elim⟩
theorem wp_iff2 (c:Prop){_:Decidable c}{α:Type}(m n:R α)(Q:α->S->Prop):(if c then m else n).wp Q=if c then m.wp Q else n.wp Q:=by
 by_cases h:c
 ·rw[if_pos h,if_pos h]
 ·rw[if_neg h,if_neg h]
theorem wp_iff2S (c:Prop){_:Decidable c}(m n:RS)(N:En->S->Prop)(T:AV->S->Prop):(if c then m else n).wp N T=if c then m.wp N T else n.wp N T:=by
 by_cases h:c
 ·rw[if_pos h,if_pos h]
 ·rw[if_neg h,if_neg h]
theorem wp_need {α γ:Type}(x:γ)(f:γ->R α)(Q:α->S->Prop):(need (some x) f).wp Q=(f x).wp Q:=rfl
theorem len_sz:(([]:List AV).length<=sizeLine)=True/\(∀ a:AV,([a].length<=sizeLine)=True)/\(∀ a b:AV,([a,b].length<=sizeLine)=True)/\(∀ a b c:AV,([a,b,c].length<=sizeLine)=True)/\
  (∀ a b c d e f:AV,([a,b,c,d,e,f].length<=sizeLine)=True)/\
  (([]:List AV).length=0)=True/\(∀ a:AV,([a].length=1)=True)/\(∀ a b:AV,([a,b].length=2)=True)/\(∀ a b c:AV,([a,b,c].length=3)=True):=by
 refine⟨?_,?_,?_,?_,?_,?_,?_,?_,?_⟩<;>intros<;>first|exact eq_true rfl|exact eq_true (szl (by show(_:Nat)<=1000;simp))
theorem WS :
  (∀ (a b:Ms) (env:En) (s:S) (N:En->S->Prop) (T:AV->S->Prop),(sSeq a b env s).wp N T=(a env s).wp (λ e s1=>(b e s1).wp N T) T)/\
  (∀ (i:Nat) (m:Ev) (env:En) (s:S) (N:En->S->Prop) (T:AV->S->Prop),(sSet i m env s).wp N T=(m env s).wp λ v s1=>N (env.set i (some v)) s1)/\
  (∀ (m:Ev) (env:En) (s:S) (N:En->S->Prop) (T:AV->S->Prop),(sRet m env s).wp N T=(m env s).wp T)/\
  (∀ (c:Eb) (a b:Ms) (env:En) (s:S) (N:En->S->Prop) (T:AV->S->Prop),(sIf c a b env s).wp N T=(c env s).wp λ k s1=>if k=true then (a env s1).wp N T else (b env s1).wp N T)/\
  (∀ (m:Ev) (env:En) (s:S) (N:En->S->Prop) (T:AV->S->Prop),(sExpr m env s).wp N T=(m env s).wp λ _ s1=>N env s1)/\
  (∀ (m:Ev) (g:Mt) (env:En) (s:S) (N:En->S->Prop) (T:AV->S->Prop),(sAsg m g env s).wp N T=(m env s).wp λ v s1=>(g v env s1).wp N T)/\
  (∀ (i j:Nat) (a b:Ev) (env:En) (s:S) (N:En->S->Prop) (T:AV->S->Prop),(sPar i j (pCons a (pCons b pNil)) env s).wp N T=(a env s).wp λ v s1=>(b env s1).wp λ w s2=>N ((env.set i (some v)).set j (some w)) s2)/\
  (∀ (env:En) (s:S) (N:En->S->Prop) (T:AV->S->Prop),(sSkip env s).wp N T=N env s)/\
  (∀ (src:Src) (tgt:Mt) (b:Ms) (env:En) (s:S) (N:En->S->Prop) (T:AV->S->Prop),(sFor src tgt b env s).wp N T=(src env s).wp λ p s1=>(forL tgt b p.2 p.1 env s1).wp N T)/\
  (∀ (d y v:Ev) (env:En) (s:S) (N:En->S->Prop) (T:AV->S->Prop),(sDput d y v env s).wp N T=(v env s).wp λ a s1=>(d env s1).wp λ b s2=>(y env s2).wp λ c s3=>(putD a b c env s3).wp N T)/\
  (∀ (i:Nat) (v:AV) (env:En) (s:S) (N:En->S->Prop) (T:AV->S->Prop),(gN i v env s).wp N T=N (env.set i (some v)) s)/\
  (∀ (n:Nat) (r:Mts) (vs:List AV) (env:En) (s:S) (N:En->S->Prop) (T:AV->S->Prop),(gT n r (.tup vs) env s).wp N T=(vs.length=n/\(r vs env s).wp N T))/\
  (∀ (i:Nat) (r:Mts) (v:AV) (w:List AV) (env:En) (s:S) (N:En->S->Prop) (T:AV->S->Prop),(gCons' (gN i) r (v :: w) env s).wp N T=(r w (env.set i (some v)) s).wp N T)/\
  (∀ (env:En) (s:S) (N:En->S->Prop) (T:AV->S->Prop),(gNil' [] env s).wp N T=N env s)/\
  (∀ (o i:Ev) (r:Mts) (v:AV) (w:List AV) (env:En) (s:S) (N:En->S->Prop),(gCons' (gSubL o i) r (v :: w) env s).wp N (λ _ _=>False)=(gSubL o i v env s).wp (λ e s1=>(r w e s1).wp N (λ _ _=>False)) (λ _ _=>False))/\
  (∀ (n:Nat) (b:Ms) (v:AV) (s:S) (Q:AV->S->Prop),(fnR n b [v] s).wp Q=(b (some v :: List.replicate (n - 1) none) s).wp (λ _ s1=>Q .non s1) Q)/\
  (∀ (n:Nat) (b:Ms) (v w:AV) (s:S) (Q:AV->S->Prop),(fnR n b [v,w] s).wp Q=(b (some v :: some w :: List.replicate (n - 2) none) s).wp (λ _ s1=>Q .non s1) Q)/\
  (∀ (n:Nat) (b:Ms) (v w x:AV) (s:S) (Q:AV->S->Prop),(fnR n b [v,w,x] s).wp Q=(b (some v :: some w :: some x :: List.replicate (n - 3) none) s).wp (λ _ s1=>Q .non s1) Q):=by
 refine⟨?_,?_,?_,?_,?_,?_,?_,?_,?_,?_,?_,?_,?_,?_,?_,?_,?_,?_⟩<;>intros
 ·rename_i a b env s N T;show(match a env s with|.nx e s1=>b e s1|r=>r).wp N T=_;cases a env s<;>rfl
 ·unfold sSet;rw[wp_bindS];rfl
 ·unfold sRet;rw[wp_bindS];rfl
 ·unfold sIf;rw[wp_bindS];congr 1;funext k s1;exact wp_iff2S _ _ _ _ _
 ·unfold sExpr;rw[wp_bindS];rfl
 ·unfold sAsg;rw[wp_bindS]
 ·rename_i i j a b env s N T
  unfold sPar pCons pNil
  cases a env s with
  | ok v s1=>
   simp only[bind_ok,wp_ok]
   cases b env s1<;>rfl
  | ex c s1=>rfl
  | bad=>rfl
 ·rfl
 ·unfold sFor;rw[wp_bindS]
 ·unfold sDput;rw[wp_bindS];congr 1;funext k s1;rw[wp_bindS];congr 1;funext k s1;rw[wp_bindS]
 ·rfl
 ·exact wp_ifS _ _ _ _
 ·rfl
 ·rfl
 ·rename_i o i r v w env s N
  show(match gSubL o i v env s with|.nx e s1=>r w e s1|q=>q).wp N _=_
  cases gSubL o i v env s<;>rfl
 ·rename_i n b v s Q
  show(match b (some v :: List.replicate (n - 1) none) s with|.rt v s1=>R.ok v s1|.nx _ s1=>.ok .non s1|.ex c s1=>.ex c s1|_=>.bad).wp Q=_
  cases b (some v :: List.replicate (n - 1) none) s<;>rfl
 ·rename_i n b v w s Q
  show(match b (some v :: some w :: List.replicate (n - 2) none) s with|.rt v s1=>R.ok v s1|.nx _ s1=>.ok .non s1|.ex c s1=>.ex c s1|_=>.bad).wp Q=_
  cases b (some v :: some w :: List.replicate (n - 2) none) s<;>rfl
 ·rename_i n b v w x s Q
  show(match b (some v :: some w :: some x :: List.replicate (n - 3) none) s with|.rt v s1=>R.ok v s1|.nx _ s1=>.ok .non s1|.ex c s1=>.ex c s1|_=>.bad).wp Q=_
  cases b (some v :: some w :: some x :: List.replicate (n - 3) none) s<;>rfl
def walkO (v:AV)(s:S):R (List AV × Gd):=match v with
 | .tup xs=>.ok (xs,[]) s
 | .sq xs=>.ok (xs,[]) s
 | .ref i=>need (lstO s i) λ xs=>.ok (xs,[(i,xs)]) s
 | _=>.bad
theorem WE :
  (∀ (v:AV) (env:En) (s:S) (Q:AV->S->Prop),(mc v env s).wp Q=Q v s)/\
  (∀ (op:AV->AV->S->R AV) (a b:Ev) (env:En) (s:S) (Q:AV->S->Prop),(mBin op a b env s).wp Q=(a env s).wp λ v s1=>(b env s1).wp λ w s2=>(op v w s2).wp Q)/\
  (∀ (op:AV->S->R AV) (a:Ev) (env:En) (s:S) (Q:AV->S->Prop),(mUn op a env s).wp Q=(a env s).wp λ v s1=>(op v s1).wp Q)/\
  (∀ (r:Evs) (env:En) (s:S) (Q:AV->S->Prop),(mTup r env s).wp Q=(r env s).wp λ vs s1=>vs.length<=sizeLine/\Q (.tup vs) s1)/\
  (∀ (r:Evs) (env:En) (s:S) (Q:List AV->S->Prop),(lLst r env s).wp Q=(r env s).wp λ vs s1=>vs.length<=sizeLine/\Q vs s1)/\
  (∀ (r:Evs) (env:En) (s:S) (Q:AV->S->Prop),(mNew r env s).wp Q=(r env s).wp λ vs s1=>Q (.ref s1.length) (s1++[.lst vs]))/\
  (∀ (n:Nat) (F:List AV->S->R AV) (r:Evs) (env:En) (s:S) (Q:AV->S->Prop),(mCall n F r env s).wp Q=(r env s).wp λ vs s1=>vs.length=n/\(F vs s1).wp Q)/\
  (∀ (a:Ev) (r:Evs) (env:En) (s:S) (Q:List AV->S->Prop),(pCons a r env s).wp Q=(a env s).wp λ v s1=>(r env s1).wp λ vs s2=>Q (v :: vs) s2)/\
  (∀ (env:En) (s:S) (Q:List AV->S->Prop),(pNil env s).wp Q=Q [] s)/\
  (∀ (m:Ev) (env:En) (s:S) (Q:Bool->S->Prop),(cB m env s).wp Q=(m env s).wp λ v s1=>match v with|.bl b=>Q b s1|_=>False)/\
  (∀ (m:Ev) (env:En) (s:S) (Q:Bool->S->Prop),(cT m env s).wp Q=(m env s).wp λ v s1=>match truth v s1 with|some b=>Q b s1|none=>False)/\
  (∀ (a:Eb) (env:En) (s:S) (Q:Bool->S->Prop),(cNot a env s).wp Q=(a env s).wp λ c s1=>Q (!c) s1)/\
  (∀ (a b:Eb) (env:En) (s:S) (Q:Bool->S->Prop),(cAnd a b env s).wp Q=(a env s).wp λ c s1=>if c=true then (b env s1).wp Q else Q false s1)/\
  (∀ (a b:Eb) (env:En) (s:S) (Q:Bool->S->Prop),(cOr a b env s).wp Q=(a env s).wp λ c s1=>if c=true then Q true s1 else (b env s1).wp Q)/\
  (∀ (env:En) (s:S) (Q:Bool->S->Prop),(cYes env s).wp Q=Q true s)/\
  (∀ (c:Eb) (a b:Ev) (env:En) (s:S) (Q:AV->S->Prop),(mIf c a b env s).wp Q=(c env s).wp λ k s1=>if k=true then (a env s1).wp Q else (b env s1).wp Q)/\
  (∀ (op:List AV->S->R AV) (r:Evs) (env:En) (s:S) (Q:AV->S->Prop),(mOp op r env s).wp Q=(r env s).wp λ vs s1=>(op vs s1).wp Q)/\
  (∀ {α:Type}(op:List AV->S->R α) (r:Evs) (env:En) (s:S) (Q:α->S->Prop),(gOp op r env s).wp Q=(r env s).wp λ vs s1=>(op vs s1).wp Q)/\
  (∀ (m:Ev) (env:En) (s:S) (Q:List AV->S->Prop),(lIts m env s).wp Q=(m env s).wp λ v s1=>(need (items v s1) λ xs=>.ok xs s1).wp Q)/\
  (∀ (r:Evs) (env:En) (s:S) (Q:List AV × Gd->S->Prop),(srcL r env s).wp Q=(r env s).wp λ xs s1=>Q (xs,[]) s1)/\
  (∀ (m:Ev) (env:En) (s:S) (Q:List AV × Gd->S->Prop),(srcV' m env s).wp Q=(m env s).wp λ v s1=>(walkO v s1).wp Q)/\
  (∀ (l:Lc) (src:Src) (tgt:Mt) (test:Eb) (elt:Ev) (env:En) (s:S) (Q:List AV->S->Prop),(lComp l src tgt test elt env s).wp Q=(src env s).wp λ p s1=>p.1.length<=sizeLine/\(compL tgt test elt p.2 p.1 (srcE l env) s1 []).wp Q)/\
  (∀ (n:String) (op:AV->List AV->S->R AV) (o:Ev) (r:Evs) (env:En) (s:S) (Q:AV->S->Prop),(mMet n op o r env s).wp Q=(o env s).wp λ v s1=>(isTy n v s1).isSome=true/\(r env s1).wp λ vs s2=>(op v vs s2).wp Q)/\
  (∀ {α:Type}(n:String) (op:AV->List AV->S->R α) (o:Ev) (r:Evs) (env:En) (s:S) (Q:α->S->Prop),(gMet n op o r env s).wp Q=(o env s).wp λ v s1=>(isTy n v s1).isSome=true/\(r env s1).wp λ vs s2=>(op v vs s2).wp Q)/\
  (∀ (n:String) (op:AV->List AV->S->R AV) (o:Ev) (env:En) (s:S) (Q:AV->S->Prop),(mMet0 n op o env s).wp Q=(o env s).wp λ v s1=>(isTy n v s1).isSome=true/\(op v [] s1).wp Q)/\
  (∀ (d y z:Ev) (env:En) (s:S) (Q:AV->S->Prop),(mGet2 d y z env s).wp Q=(d env s).wp λ a s1=>(isTy "dict" a s1).isSome=true/\(y env s1).wp λ b s2=>(z env s2).wp λ c s3=>(opGet2 a b c s3).wp Q)/\
  (∀ (env:En) (s:S) (Q:AV->S->Prop),(mD0 env s).wp Q=Q (.ref s.length) (s++[.dK []]))/\
  (∀ (m:Ev) (lo hi:Eo) (env:En) (s:S) (Q:AV->S->Prop),(mSl m lo hi env s).wp Q=(m env s).wp λ v s1=>(lo env s1).wp λ l s2=>(hi env s2).wp λ h s3=>(opSl v l h s3).wp Q)/\
  (∀ (env:En) (s:S) (Q:Option Int->S->Prop),(oN env s).wp Q=Q none s)/\
  (∀ (m:Ev) (env:En) (s:S) (Q:Option Int->S->Prop),(oS m env s).wp Q=(m env s).wp λ v s1=>match v with|.int i=>Q (some i) s1|_=>False)/\
  (∀ (a b:Ev) (env:En) (s:S) (Q:AV->S->Prop),(mAnd a b env s).wp Q=(a env s).wp λ v s1=>match v with|.bl true=>(b env s1).wp Q|.bl false=>Q (.bl false) s1|_=>False)/\
  (∀ (a b:Ev) (env:En) (s:S) (Q:AV->S->Prop),(mOr a b env s).wp Q=(a env s).wp λ v s1=>match v with|.bl true=>Q (.bl true) s1|.bl false=>(b env s1).wp Q|_=>False)/\
  (∀ (m:Ev) (env:En) (s:S) (Q:AV->S->Prop),(gcE m env s).wp Q=(m env s).wp λ v s1=>(s1.take s.length=s/\v.low s.length=true)/\Q v s)/\
  (∀ (m:Eb) (env:En) (s:S) (Q:Bool->S->Prop),(gcB m env s).wp Q=(m env s).wp λ v s1=>(s1.take s.length=s)/\Q v s)/\
  (∀ (m:Ev) (env:En) (s:S) (Q:AV->S->Prop),(gcM m env s).wp Q=(m env s).wp λ v s1=>((s1.take s.length).all (AO.low s.length)=true/\v.low s.length=true)/\Q v (s1.take s.length))/\
  (∀ (m:Ev) (env:En) (s:S) (Q:List AV->S->Prop),(lTake m env s).wp Q=(m env s).wp λ v s1=>match v with|.ref k=>(need (lstO s1 k) λ xs=>if s.length<=k/\(s1.take s.length).all (AO.low s.length)=true/\lowL s.length xs=true then .ok xs (s1.take s.length) else .bad).wp Q|_=>False):=by
 refine⟨?_,?_,?_,?_,?_,?_,?_,?_,?_,?_,?_,?_,?_,?_,?_,?_,?_,?_,?_,?_,?_,?_,?_,?_,?_,?_,?_,?_,?_,?_,?_,?_,?_,?_,?_,?_⟩<;>intros
 ·rfl
 ·unfold mBin;rw[wp_bind];congr 1;funext v s1;rw[wp_bind]
 ·unfold mUn;rw[wp_bind]
 ·unfold mTup;rw[wp_bind];congr 1;funext v s1;exact wp_if _ _ _
 ·unfold lLst;rw[wp_bind];congr 1;funext v s1;exact wp_if _ _ _
 ·unfold mNew;rw[wp_bind];rfl
 ·unfold mCall;rw[wp_bind];congr 1;funext v s1;exact wp_if _ _ _
 ·unfold pCons;rw[wp_bind];congr 1;funext v s1;rw[wp_bind];rfl
 ·rfl
 ·unfold cB;rw[wp_bind];congr 1;funext v s1;cases v<;>rfl
 ·unfold cT;rw[wp_bind];congr 1;funext v s1;cases truth v s1<;>rfl
 ·unfold cNot;rw[wp_bind];rfl
 ·unfold cAnd;rw[wp_bind];congr 1;funext v s1;exact wp_iff2 _ _ _ _
 ·unfold cOr;rw[wp_bind];congr 1;funext v s1;exact wp_iff2 _ _ _ _
 ·rfl
 ·unfold mIf;rw[wp_bind];congr 1;funext v s1;exact wp_iff2 _ _ _ _
 ·unfold mOp;rw[wp_bind]
 ·unfold gOp;rw[wp_bind]
 ·unfold lIts;rw[wp_bind]
 ·unfold srcL;rw[wp_bind];rfl
 ·unfold srcV';rw[wp_bind];rfl
 ·unfold lComp;rw[wp_bind];congr 1;funext v s1;exact wp_if _ _ _
 ·unfold mMet;rw[wp_bind];congr 1;funext v s1
  cases isTy _ v s1 with
  | none=>exact propext ⟨λ k=>k.elim,λ k=>nomatch k.1⟩
  | some u=>rw[wp_need,wp_bind];exact propext ⟨λ k=>⟨rfl,k⟩,λ k=>k.2⟩
 ·unfold gMet;rw[wp_bind];congr 1;funext v s1
  cases isTy _ v s1 with
  | none=>exact propext ⟨λ k=>k.elim,λ k=>nomatch k.1⟩
  | some u=>rw[wp_need,wp_bind];exact propext ⟨λ k=>⟨rfl,k⟩,λ k=>k.2⟩
 ·unfold mMet0;rw[wp_bind];congr 1;funext v s1
  cases isTy _ v s1 with
  | none=>exact propext ⟨λ k=>k.elim,λ k=>nomatch k.1⟩
  | some u=>rw[wp_need];exact propext ⟨λ k=>⟨rfl,k⟩,λ k=>k.2⟩
 ·unfold mGet2;rw[wp_bind];congr 1;funext v s1
  cases isTy _ v s1 with
  | none=>exact propext ⟨λ k=>k.elim,λ k=>nomatch k.1⟩
  | some u=>
   rw[wp_need,wp_bind]
   simp only[wp_bind]
   exact propext ⟨λ k=>⟨rfl,k⟩,λ k=>k.2⟩
 ·rfl
 ·unfold mSl;rw[wp_bind];congr 1;funext v s1;rw[wp_bind];congr 1;funext v s1;rw[wp_bind]
 ·rfl
 ·unfold oS;rw[wp_bind];congr 1;funext v s1;cases v<;>rfl
 ·unfold mAnd;rw[wp_bind];congr 1;funext v s1
  cases v with
  | bl b=>cases b<;>rfl
  | _=>rfl
 ·unfold mOr;rw[wp_bind];congr 1;funext v s1
  cases v with
  | bl b=>cases b<;>rfl
  | _=>rfl
 ·unfold gcE;rw[wp_bind];congr 1;funext v s1;exact wp_if _ _ _
 ·unfold gcB;rw[wp_bind];congr 1;funext v s1;exact wp_if _ _ _
 ·unfold gcM;rw[wp_bind];congr 1;funext v s1;exact wp_if _ _ _
 ·unfold lTake;rw[wp_bind];congr 1;funext v s1;cases v<;>rfl
theorem for_wp {tgt:Mt}{b:Ms}{gs:Gd}{N:En->S->Prop}{T:AV->S->Prop}(I:List AV->En->S->Prop)(hg:∀ l env s,I l env s->gOk gs s)(h0:∀ env s,I [] env s->N env s)
  (h1:∀ v r env s,I (v :: r) env s->(tgt v env s).wp (λ e s1=>(b e s1).wp (I r) T) (λ _ _=>False)):∀ l env s,I l env s->(forL tgt b gs l env s).wp N T
 | [],env,s,h=>by unfold forL;rw[if_pos (hg _ _ _ h)];exact h0 env s h
 | v :: r,env,s,h=>by
  unfold forL
  rw[if_pos (hg _ _ _ h)]
  have k:=h1 v r env s h
  revert k
  cases tgt v env s with
  | nx e1 s1=>
   intro k
   have k:(b e1 s1).wp (I r) T:=k
   dsimp only
   revert k
   cases b e1 s1 with
   | nx e2 s2=>intro k;exact for_wp I hg h0 h1 r e2 s2 k
   | rt e2 s2=>intro k;exact k
   | _=>intro k;exact k.elim
  | _=>intro k;exact k.elim
theorem comp_wp {tgt:Mt}{test:Eb}{elt:Ev}{gs:Gd}{Q:List AV->S->Prop}(I:List AV->List AV->En->S->Prop)(hg:∀ l acc env s,I l acc env s->gOk gs s)(h0:∀ acc env s,I [] acc env s->Q acc s)
  (h1:∀ v r acc env s,I (v :: r) acc env s->(tgt v env s).wp (λ e s1=>(test e s1).wp λ c s2=>if c=true then (elt e s2).wp λ x s3=>I r (acc++[x]) e s3 else I r acc e s2) (λ _ _=>False)):∀ l acc env s,I l acc env s->(compL tgt test elt gs l env s acc).wp Q
 | [],acc,env,s,h=>by unfold compL;rw[if_pos (hg _ _ _ _ h)];exact h0 acc env s h
 | v :: r,acc,env,s,h=>by
  unfold compL
  rw[if_pos (hg _ _ _ _ h)]
  have k:=h1 v r acc env s h
  revert k
  cases tgt v env s with
  | nx e1 s1=>
   intro k
   dsimp only
   rw[wp_bind,wp_calm]
   refine R.wp.mono k λ c s2 k=>?_
   rw[wp_iff2,wp_bind,wp_calm]
   split
   ·rename_i hc;rw[if_pos hc]at k
    exact R.wp.mono k λ x s3 k=>comp_wp I hg h0 h1 r (acc++[x]) e1 s3 k
   ·rename_i hc;rw[if_neg hc]at k
    exact comp_wp I hg h0 h1 r acc e1 s2 k
  | _=>intro k;exact k.elim
end Mm
namespace Mm
open PySem L2
theorem wpe {α:Type}{m:R α}{v:α}{s:S}(h:m=.ok v s)(Q:α->S->Prop):m.wp Q=Q v s:=by rw[h];rfl
theorem wpeS {m:RS}{e:En}{s:S}(h:m=.nx e s)(N:En->S->Prop)(T:AV->S->Prop):m.wp N T=N e s:=by rw[h];rfl
theorem wp_whl (f:En->S->Nat)(c:Eb)(b:Ms)(env:En)(s:S)(N:En->S->Prop)(T:AV->S->Prop):(sWhl f c b env s).wp N T=(whl c b (f env s) env s).wp N T:=rfl
theorem seq_step {a b:Ms}{env:En}{s:S}{N:En->S->Prop}{T:AV->S->Prop}(h:∀ K:En->S->Prop,(∀ e s,K e s=(b e s).wp N T)->(a env s).wp K T):(sSeq a b env s).wp N T:=by
 rw[WS.1]
 exact h _ λ _ _=>rfl
theorem WV :
  (∀ (v:AV) (l:En) (s:S) (Q:AV->S->Prop),(mv 0 (some v :: l) s).wp Q=Q v s)/\
  (∀ (n:Nat) (x:Option AV) (l:En) (s:S) (Q:AV->S->Prop),(mv (n+1) (x :: l) s).wp Q=(mv n l s).wp Q)/\
  (∀ (i j:Int) (s:S) (Q:AV->S->Prop),(opAdd (.int i) (.int j) s).wp Q=Q (.int (i+j)) s)/\
  (∀ (i j:Int) (s:S) (Q:AV->S->Prop),(opSub (.int i) (.int j) s).wp Q=Q (.int (i - j)) s)/\
  (∀ (i j:Int) (s:S) (Q:AV->S->Prop),(opMul (.int i) (.int j) s).wp Q=((Big i/\Big j)/\Q (.int (i * j)) s))/\
  (∀ (i j:Int) (s:S) (Q:AV->S->Prop),(opFdiv (.int i) (.int j) s).wp Q=((j≠0/\Mid j)/\Q (.int (i.fdiv j)) s))/\
  (∀ (i j:Int) (s:S) (Q:AV->S->Prop),(opMod (.int i) (.int j) s).wp Q=(j≠0/\Q (.int (i.fmod j)) s))/\
  (∀ (i:Int) (s:S) (Q:AV->S->Prop),(opNeg (.int i) s).wp Q=Q (.int (-i)) s)/\
  (∀ (b:Bool) (s:S) (Q:AV->S->Prop),(opNot (.bl b) s).wp Q=Q (.bl (!b)) s)/\
  (∀ (i j:Int) (s:S) (Q:AV->S->Prop),(opLt (.int i) (.int j) s).wp Q=Q (.bl (decide (i < j))) s)/\
  (∀ (i j:Int) (s:S) (Q:AV->S->Prop),(opLe (.int i) (.int j) s).wp Q=Q (.bl (decide (i<=j))) s)/\
  (∀ (i j:Int) (s:S) (Q:AV->S->Prop),(opGt (.int i) (.int j) s).wp Q=Q (.bl (decide (j < i))) s)/\
  (∀ (i j:Int) (s:S) (Q:AV->S->Prop),(opGe (.int i) (.int j) s).wp Q=Q (.bl (decide (j<=i))) s)/\
  (∀ (i j:Int) (s:S) (Q:AV->S->Prop),(opEq (.int i) (.int j) s).wp Q=Q (.bl (decide (i=j))) s)/\
  (∀ (i j:Int) (s:S) (Q:AV->S->Prop),(opNe (.int i) (.int j) s).wp Q=Q (.bl (!decide (i=j))) s)/\
  (∀ (i j:Str) (s:S) (Q:AV->S->Prop),(opEq (.str i) (.str j) s).wp Q=Q (.bl (decide (i=j))) s)/\
  (∀ (i j:Str) (s:S) (Q:AV->S->Prop),(opNe (.str i) (.str j) s).wp Q=Q (.bl (!decide (i=j))) s)/\
  (∀ (v:AV) (s:S) (Q:AV->S->Prop),(opIsN v .non s).wp Q=Q (.bl (isNon v)) s)/\
  (∀ (v:AV) (s:S) (Q:AV->S->Prop),(opIsntN v .non s).wp Q=Q (.bl (!isNon v)) s)/\
  (∀ (i:Int) (s:S) (Q:AV->S->Prop),(opAbs [.int i] s).wp Q=Q (.int (if i < 0 then -i else i)) s)/\
  (∀ (i j:Int) (s:S) (Q:AV->S->Prop),(opMin [.int i,.int j] s).wp Q=Q (.int (if j < i then j else i)) s)/\
  (∀ (i:Int) (s:S) (Q:AV->S->Prop),(opInt [.int i] s).wp Q=Q (.int i) s)/\
  (∀ (i:Bool) (s:S) (Q:AV->S->Prop),(opInt [.bl i] s).wp Q=Q (.int (if i then 1 else 0)) s)/\
  (∀ (xs:List AV) (i:Int) (s:S) (Q:AV->S->Prop),(opIx (.tup xs) (.int i) s).wp Q=(need (atI xs i) λ v=>.ok v s).wp Q)/\
  (∀ (k:Nat) (i:Int) (s:S) (Q:AV->S->Prop),(opIx (.ref k) (.int i) s).wp Q=(need (lstO s k) λ xs=>need (atI xs i) λ v=>.ok v s).wp Q)/\
  (∀ {α:Type}(a:α) (s:S) (Q:α->S->Prop),(R.ok a s).wp Q=Q a s)/\
  (∀ (e:En) (s:S) (N:En->S->Prop) (T:AV->S->Prop),(RS.nx e s).wp N T=N e s)/\
  (∀ {α γ:Type}(x:γ) (f:γ->R α) (Q:α->S->Prop),(need (some x) f).wp Q=(f x).wp Q)/\
  (∀ (xs:List AV) (s:S) (Q:List AV × Gd->S->Prop),(walkO (.tup xs) s).wp Q=Q (xs,[]) s)/\
  (∀ (i j:Int) (s:S) (Q:AV->S->Prop),(opPow (.int i) (.int j) s).wp Q=(CPow i j/\Q (.int (i ^ j.toNat)) s))/\
  (∀ (i j:Int) (s:S) (Q:AV->S->Prop),(opDivmod [.int i,.int j] s).wp Q=((0 < j/\Mid j)/\Q (.tup [.int (i / j),.int (i % j)]) s)):=by
 refine⟨?_,?_,?_,?_,?_,?_,?_,?_,?_,?_,?_,?_,?_,?_,?_,?_,?_,?_,?_,?_,?_,?_,?_,?_,?_,?_,?_,?_,?_,?_,?_⟩<;>intros<;>first|rfl|exact wp_if _ _ _
theorem Lq :
  (∀ (x y:Option AV) (l:En),(x :: l).set 0 y=y :: l)/\
  (∀ (x y:Option AV) (l:En) (n:Nat),(x :: l).set (n+1) y=x :: l.set n y)/\
  (∀ (n:Nat) (x:Option AV),List.replicate (n+1) x=x :: List.replicate n x)/\
  (∀ (x:Option AV),List.replicate 0 x=[])/\
  (∀ (a:AV) (l:List AV),atI (a :: l) 0=some a)/\(∀ (a b:AV) (l:List AV),atI (a :: b :: l) 1=some b)/\(∀ (a b c:AV) (l:List AV),atI (a :: b :: c :: l) 2=some c)/\
  (∀ (l:Lc) (env:En),srcE l env=l.map λ p=>p.2.bind λ j=>(env[j]?).join)/\
  (∀ (x:Option AV) (l:En),(x :: l)[0]? = some x)/\
  (∀ (x:Option AV) (l:En) (n:Nat),(x :: l)[n+1]? = l[n]?)/\
  (∀ {α β:Type}(f:α->β),[].map f=[])/\
  (∀ {α β:Type}(f:α->β) (x:α) (l:List α),(x :: l).map f=f x :: l.map f)/\
  (∀ {α β:Type}(f:α->Option β),(none:Option α).bind f=none)/\
  (∀ {α β:Type}(f:α->Option β) (x:α),(some x).bind f=f x)/\
  (∀ {α:Type}(x:Option α),(some x).join=x):=by
 refine⟨?_,?_,?_,?_,?_,?_,?_,?_,?_,?_,?_,?_,?_,?_,?_⟩<;>intros<;>first|rfl|skip
 ·exact atI_nat (j:=0) rfl
 ·exact atI_nat (j:=1) rfl
 ·exact atI_nat (j:=2) rfl
theorem UU:(∀ p:Prop,(True ∧ p)=p) ∧ (∀ p:Prop,(p ∧ True)=p) ∧ (∀ {α:Type}{_:Decidable True}(a b:α),(if True then a else b)=a) ∧ (∀ {α:Type}{_:Decidable False}(a b:α),(if False then a else b)=b) ∧ ((false=true)=False) ∧ (∀ (p:Prop){_:Decidable p},(decide p=true)=p) ∧ (∀ b:Bool,((!b)=true)=(b=false)) ∧ (∀ (p:Prop){_:Decidable p},(decide p=false)=¬p):=by
 refine⟨λ p=>true_and p,λ p=>and_true p,λ a b=>if_true a b,λ a b=>if_false a b,Bool.false_eq_true,λ p _=>decide_eq_true_eq,λ b=>Bool.not_eq_true' b,λ p _=>propext decide_eq_false_iff_not⟩

end Mm
local macro_rules | `(tactic| walk_at "w") => `(tactic| simp only [↓Mm.WS, ↓Mm.WE, ↓Mm.WV, Mm.Lq, Mm.len_sz, Mm.UU, Nat.reduceSub, ↓reduceIte])
namespace Ro
open PySem L2 Mm
abbrev TK (K:PySem.W.Frag):Tx:=⟨K,λ _=>0⟩
structure Df (T:Tx)(mg:Str->Option Value)(x:Str)(st:Stmt):Prop where
 ex:∃ f fd,Fun T.K x x st f fd/\mg x=some (.ref f)
theorem df_mk {K:PySem.W.Frag}{cl:Nat->Addr}{h:Heap}{mg:Str->Option Value}{x:Str}{st:Stmt}{f:Addr}{oc:Value}{od an:Option Addr}{osl:Array (Option Value)}{kV doc pm cdv ct:Value}(X:K.In h)(G:h.Ns mainGlobals mg)(a:PySem.W.nsIn K mainGlobals x=some (some (.ref f)))
  (l:K.lookup f=some ⟨oc,od,.func (PySem.W.fnOf x x (defArgs st) (defBody st) (defScope st) .none kV doc pm an cdv ct),osl⟩) (c:PySem.W.codeIn K cdv x=true) (k:PySem.W.keepIn K (.ref f)=true):Df ⟨K,cl⟩ mg x st:=
 ⟨⟨f,_,fun_mk l c k,PySem.W.mg_of X G a⟩⟩
theorem kst_mk {K:PySem.W.Frag}{cl:Nat->Addr}{h:Heap}{mg:Str->Option Value}{x:Str}{f:Addr}{od:Option Addr}{it:Array Value}{n:Nat}{sl:Array (Option Value)}{vs:List V}{as:List AV}(X:K.In h)(G:h.Ns mainGlobals mg)(a:PySem.W.nsIn K mainGlobals x=some (some (.ref f))) (l:K.lookup f=some ⟨.type "tuple",od,.seq it n,sl⟩)(v:Vals vs it.toList)(hs:vs.length<=1000)(hv:∀ ρ H,VRs ⟨K,cl⟩ ρ H as vs):Kst ⟨K,cl⟩ mg x (.tup as):=
 ⟨.ref f,.ref f,PySem.W.mg_of X G a,rfl,λ ρ H=>vr_tup (SqT.const l v hs) (hv ρ H)⟩
theorem kst_mk1 {K:PySem.W.Frag}{cl:Nat->Addr}{h:Heap}{mg:Str->Option Value}{x:Str}{u:Value}{v:V}{a:AV}(X:K.In h)(G:h.Ns mainGlobals mg)(e:PySem.W.nsIn K mainGlobals x=some (some u)) (r:RelV v u)(hv:∀ ρ H,VR ⟨K,cl⟩ ρ H a v):Kst ⟨K,cl⟩ mg x a:=⟨v,u,PySem.W.mg_of X G e,r,hv⟩
section
variable {P:Program}{w:World}{T:Tx}{mg:Str->Option Value}{base:Heap}
theorem fk_of {x:Str}{st:Stmt}{k n:Nat}{body:Ms}(N:List Str)(D:Df T mg x st)(S:FnScope N (N.take n) (defScope st))
  (hb:∀ (kV doc pm:Value) (an:Option Addr) (cdv ct:Value) (us:List Value),us.length=(N.take n).length->bindArgs (PySem.W.fnOf x x (defArgs st) (defBody st) (defScope st) .none kV doc pm an cdv ct) ⟨us,[]⟩=pure ((N.take n).zip us)) (hn:(N.take n).length=n)
  (h:∀ (f:Addr) (cdv:Value) (A:Around) (outer:List Env) (s:Shared) (H:Hp) (E:XK),Room k (A.deeper (PyProof.Rows.envOfC x (defScope st) s.heap.objs.size f cdv))->N.Nodup->PSs (cxOf CX0 P w T.K mg base N x (defScope st) f cdv A outer s H E).nox (defBody st) (tS T XE0 body)) :
  Fk P w T mg base x n (k+1) (fnR N.length body):=by
 obtain⟨f,fd,F,m⟩:=D.ex
 have:=fn_ok F S λ cdv A outer s H E hr=>h f cdv A outer s H E hr S.nd
 rw[hn]at this
 exact⟨f,fd,_,this,F.binds hb,m,F.kp⟩
theorem sp_law {K:PySem.W.Frag}{H:Hp}{a:Addr}{ns:List Int}{E:XK}{fl:List AV->S->R AV}(hl:(fl [.sq (ns.map AV.int)] []).wp λ v _=>v=.bl true) (hO:Only H)(hS:SqL K H a (ns.map V.int)):spOf (TK K) 1 fl [.ref a] H (λ v _=>v=.bl true) E:=by
 have hF:SqF K H a (ns.map V.int):=by
  rcases hS with h|h
  ·rcases h with h|h
   ·rcases hO a with z|⟨o,xs,z⟩
    ·rw[z]at h;cases h
    ·rw[z]at h;cases h
   ·exact .inl h
  ·exact .inr h
 refine⟨rfl,[],[],[.sq (ns.map AV.int)],⟨List.nodup_nil,rfl,(λ i o e=>nomatch e)⟩,?_,?_⟩
 ·unfold VRs
  refine⟨_,_,rfl,?_,by unfold VRs;rfl⟩
  unfold VR
  exact⟨a,_,rfl,hF,VRs.map (λ i=>vr_int) ns⟩
 ·obtain⟨v,s',e,rfl⟩:=hl.get
  rw[e]
  intro ρ' H' x _ _ hx
  have hx:VR (TK K) ρ' H' (.bl true) x:=hx
  unfold VR at hx
  exact hx
theorem fin_of {l:PySem.W.OpenLaw}{w:World}{K:PySem.W.Frag}{h:Heap}{mg:Str->Option Value}{fa:Addr}{st:Stmt}{k:Nat}{sp:Sp}(hfa:mg "law"=some (.ref fa)) (D:Df (TK K) mg "law" st)
  (hb:∀ (s:Shared) (v kV doc pm:Value) (an:Option Addr) (cdv ct:Value),BindsTo s (PySem.W.fnOf "law" "law" (defArgs st) (defBody st) (defScope st) .none kV doc pm an cdv ct) ⟨[v],[]⟩ [("_law_script",v)])
  (F:∀ (base:Heap) (f:Addr) (fd:FuncData),Fun K "law" "law" st f fd->FnOk l.prog w K mg base CX0 k f fd ["_law_script"] sp) :
  ∃ fd:FuncData,(∀ (s:Shared) (v:Value),BindsTo s fd ⟨[v],[]⟩ [("_law_script",v)])/\∀ base:Heap,K.In base->base.Ns mainGlobals mg->FnOk l.prog w K mg base CX0 k fa fd ["_law_script"] sp:=by
 obtain⟨f,fd,G,m⟩:=D.ex
 cases m.symm.trans hfa
 refine⟨fd,?_,λ base _ _=>F base _ _ G⟩
 obtain⟨oc,od,kV,doc,pm,an,cdv,ct,osl,rfl,lk,hcd⟩:=G.ex
 exact λ s v=>hb s v kV doc pm an cdv ct
end
theorem walk {l:PySem.W.OpenLaw}{q:Program}{loose:List Str}{XP:(Str->Option Value)->Heap->Prop}{YP:World->Heap->Prop}{d:DefRec}{K:Params->PySem.W.Frag}(fl:List AV->S->R AV)(k:Nat)(hk:Room k callerA)(hl:∀ ns:List Int,(fl [.sq (ns.map AV.int)] []).wp λ v _=>v=.bl true) (hn:l.most=some 63)(hdf:d.params.defaults=[])
  (hY:∀ (w:World) (h:Heap),YP w h->(K w.params).In h)
  (F:∀ (w:World) (mg:Str->Option Value) (fa:Addr) (h:Heap),(K w.params).In h->h.Ns mainGlobals mg->mg d.name=some (.ref fa)->
   ∃ fd:FuncData,(∀ (s:Shared) (u:Value),BindsTo s fd ⟨[u],[]⟩ [("_law_script",u)])/\∀ base:Heap,(K w.params).In base->base.Ns mainGlobals mg->FnOk l.prog w (K w.params) mg base CX0 k fa fd ["_law_script"] (spOf (TK (K w.params)) 1 fl)) :
  PySem.W.WalkO q loose XP YP l.row.toRowW d [] (λ f vs=>PySem.call f vs):=
 L2.walk_of (n:=63) (x:="_law_script") (CX:=λ _=>CX0) (sp:=λ w=>spOf (TK (K w.params)) 1 fl) hn (by decide) hdf hk hY F (λ w H a ns _ hO hS=>sp_law (hl ns) hO hS) λ _ _ _ _ _ z=>z
end Ro
namespace L2
open PySem PySem.Spec PyProof.Rows
def Its (x:Str):It:=⟨λ i _=>i < x.length,λ i H v H'=>H'=H/\∃ c,x.cps[i]? = some c/\v=.str ⟨#[c]⟩,λ i _=>x.length<=i⟩
theorem turn_str {P:Program}{w:World}{K:PySem.W.Frag}{tg:Expr}(x:Str)(t:Tok)(it:Addr):Turn P w K tg (Its x) [it] it (λ i h=>h.IsStrIter it "str_ascii_iterator" x t i) where
 mem:=by simp
 obj:=λ i h st b hb=>by
  have e:b=it:=by simpa using hb
  subst e
  obtain⟨o,e,c,d⟩:=st
  exact⟨o,e,λ v z=>by rw[d]at z;cases z⟩
 keep:=λ i h h' st k=>by
  obtain⟨o,e,c,d⟩:=st
  exact⟨o,k it (by simp) o e,c,d⟩
 item:=by
  intro X hP hw hK hc i pins s σ H E I hf st hg
  subst hP hw hK
  have hi:x.cps[i]? = some (x.cps[i]'hg):=Array.getElem?_eq_getElem hg
  obtain⟨f0,f1,f2,f3,f4,f5⟩:=hf it (by simp)
  refine wpAny_pyNext_ascii_item st hi λ h' st' sb=>?_
  have I1:Inv X pins σ H { s with heap:=h',toks:=s.toks+1 }:=I.turned (t':=s.toks+1) (λ b o hb e=>(sb.2 b hb).trans e) f0 f1 f3 f4 f5
  obtain⟨o,e,c,d⟩:=id st'
  exact⟨_,rfl,go_of (s:={ s with heap:=h',toks:=s.toks+1 }) e c d (by decide) ⟨.str _,H,I1,⟨_,rfl⟩,⟨rfl,_,hi,rfl⟩,st',λ b hb=>(hf b hb).1⟩⟩
 done:=by
  intro X hP hw hK hc i pins s σ H E I hf st hg
  subst hP hw hK
  obtain⟨f0,f1,f2,f3,f4,f5⟩:=hf it (by simp)
  have hg:x.cps.size<=i:=hg
  exact wpAny_pyNext_ascii_end (I.ok.hd hc) st (Array.getElem?_eq_none hg) λ h' eb=>⟨rfl,I.turned (t':=s.toks) (λ b o hb e=>eb b o hb e) f0 f1 f3 f4 f5⟩
 self:=λ _ _ _ _ _ st h=>wpAny_pyIter_striter_ascii st h
theorem pi_str {X:Cx}{tg e:Expr}{te:TE}(h:PE X e te):PI X tg e (λ σ H R=>te σ H λ x H1=>∃ t,x=.str t/\t.cps.all (· < 128)=true/\R (Its t) H1):=by
 intro pins s σ H R I hq
 refine thn (h pins s σ H _ I hq) λ u s1 ⟨x,H1,I1,rx,t,ex,ha,q⟩=>?_
 subst ex
 obtain⟨tk,rfl⟩:=rx
 refine wpAny_pyIter_ascii ha ?_
 refine⟨s1.heap.objs.size,[s1.heap.objs.size],_,Its t,H1,rfl,I1.kept (t':=s1.toks) λ b o e=>Heap.get?_push_of_some _ e,turn_str t tk _,⟨_,Heap.get?_push_size _ rfl,rfl,rfl⟩,λ b hb=>?_,q⟩
 have e:b=s1.heap.objs.size:=by simpa using hb
 subst e
 exact I1.fpOk (Nat.le_refl _) (I1.hok.fresh (Nat.le_refl _))
end L2
namespace Mm
open PySem L2
section
variable {T:Tx}{XE:XEt}{X:Cx}{pos:Pos}
structure Dg (i:Int):Prop where
 f:i.natAbs < 10 ^ 4300
noncomputable instance {i:Int}:Decidable (Dg i):=Classical.propDecidable _
abbrev Ej:=Str->En->S->R Str
def jCons (m:Ev)(r:Ej):Ej:=λ acc env s=>(m env s).bind λ v s1=>match v with
 | .str y=>if (acc++y).length<=sizeLine then r (acc++y) env s1 else .bad
 | _=>.bad
def sgn (c:Nat):AV:=.str ⟨#[c]⟩
def srcS (m:Ev):Src:=λ env s=>(m env s).bind λ v s1=>match v with
 | .str t=>if t.cps.all (· < 128)=true then .ok (t.cps.toList.map sgn,[]) s1 else .bad
 | _=>.bad
theorem mi_s {tg e:Expr}{m:Ev}(h:PE X e (tE T XE m)):PI X tg e (tW T XE (srcS m)):=
 PI.imp (pi_str h) λ σ H R ⟨ρ,env,s,hs,he,ho⟩=>step hs he ho λ v s1 ρ1 H1 x _ u1 sr1 er1 vr1 ho1=>by
  have vr1:VR T ρ1 H1 v x:=vr1
  cases v<;>try exact ho1.elim
  rename_i t _ _
  obtain⟨hl,ho1⟩:=ho1.ifInv
  refine⟨t,vr1.str_inv,hl,ho1 ρ1 H1 _ .refl sr1 ⟨λ ρ' s' H' u' sr' _=>⟨λ j v e=>?_,by show t.length<=_;rw[List.length_map];exact Nat.le_refl _⟩⟩⟩
  rw[List.getElem?_map]at e
  cases ec:t.cps.toList[j]? with
  | none=>rw[ec]at e;cases e
  | some c=>
   rw[ec]at e
   cases e
   have hj:j < t.cps.size:=by
    have:=(List.getElem?_eq_some_iff.mp ec).1
    simpa using this
   refine⟨hj,λ y H'' ⟨e1,c',ec',ey⟩=>?_⟩
   subst e1 ey
   have:c'=c:=by
    rw[Array.getElem?_toList]at ec
    rw[ec]at ec'
    exact(Option.some.inj ec').symm
   subst this
   exact⟨.refl,sr',vr_str⟩
end
end Mm
namespace L2
open PySem PySem.Spec PySem.W PyProof.Rows
section
variable {M:Model}{A:Around}{E:Value->Shared->Prop}{s:Shared}
end
end L2
namespace L2
open PySem PySem.Spec PySem.W PyProof.Rows
section
variable {M:Model}{A:Around}{E:Value->Shared->Prop}{K:PySem.W.Frag}{C D:Addr}{nm nm2:Str}{bm bm2:List Value}{ini ini2:Option Value}
end
section
variable {X:Cx}{pins:List (Addr × Obj)}{σ:St}{H:Hp}{s:Shared}
end
end L2
namespace Mm
open PySem L2
section
variable {T:Tx}{XE:XEt}{X:Cx}{pos:Pos}
end
end Mm
namespace L2
open PySem PySem.Spec PySem.W PyProof.Rows
section
variable {X:Cx}{e:Expr}{es:List Expr}{v:V}{vs:List V}
end
end L2
namespace Mm
open PySem L2
section
variable {T:Tx}{XE:XEt}{X:Cx}{pos:Pos}
end
end Mm
namespace Mm
open PySem L2 PySem.W
section
variable {T:Tx}{XE:XEt}{X:Cx}{pos:Pos}{mg:Str->Option Value}
end
end Mm
namespace Ro
open PySem L2 Mm
section
variable {P:Program}{w:World}{T:Tx}{mg:Str->Option Value}{base:Heap}
end
end Ro
namespace Mm
open PySem L2
section
variable {T:Tx}{XE:XEt}{X:Cx}{pos:Pos}
end
end Mm
namespace Ro
open PySem L2 Mm
section
variable {P:Program}{w:World}{T:Tx}{mg:Str->Option Value}{base:Heap}
end
end Ro
namespace Mm
open PySem L2
section
variable {T:Tx}{XE:XEt}{X:Cx}{pos:Pos}
def txts:List AV->Option (List Str)
 | []=>some []
 | .str x :: r=>(txts r).map (x :: ·)
 | _=>none
theorem txts_inv:∀ {l:List AV}{ss:List Str},txts l=some ss->l=ss.map AV.str
 | [],_,h=>by cases h;rfl
 | .str x :: r,ss,h=>by
  have h:(txts r).map (x :: ·)=some ss:=h
  cases e:txts r with
  | none=>rw[e]at h;cases h
  | some q=>rw[e]at h;cases h;rw[List.map_cons,<-txts_inv e]
 | .non :: _,_,h=>by cases h
 | .bl _ :: _,_,h=>by cases h
 | .int _ :: _,_,h=>by cases h
 | .tup _ :: _,_,h=>by cases h
 | .ref _ :: _,_,h=>by cases h
 | .sq _ :: _,_,h=>by cases h
def gSortN (m:Evs):Evs:=λ env s=>(m env s).bind λ l s1=>need (txts l) λ ss=>if ss.length < 64 then .ok ((sortS ss).map .str) s1 else .bad
theorem ml_sortN {e:Expr}{p:Pos}{m:Evs}(hm:X.mg "sorted"=none)(h:PE X e (tL T XE m)) (hg:Gl X "sorted":=by rfl)(he:starEach [e] X.env=(false,eval e X.env) :: starEach [] X.env:=by rfl) (hpl:(backTo pos (starEach [] X.env)).any (·.1)=false:=by rfl) :
  PE X (.Call (.Name "sorted" p) [e] [] pos) (tL T XE (gSortN m)):=
 PE.imp (pe_callB call_sortS hg hm PyProof.Rows.boot_sorted (pa_cons h pa_nil he) (by decide) (by decide) he hpl) λ σ H Q ⟨ρ,env,s,hs,he,ho⟩=>step hs he ho λ l s1 ρ1 H1 x _ u1 sr1 er1 vr1 ho1=>by
  obtain⟨ss,e2,ho3⟩:=ho1.needInv
  obtain⟨hl,ho4⟩:=ho3.ifInv
  obtain⟨a,vs,rfl,_,_,h1,k⟩:=vr1
  rw[txts_inv e2]at k
  cases k.strs_inv
  refine⟨a,ss,rfl,h1,hl,λ ss' d hd hp hs=>?_⟩
  rw[sortS_uniq hp (sortedS_pair hs)]
  exact ho4.lst sr1 hd (VRs.map (λ _=>vr_str) _)
end
end Mm
namespace L2
open PySem PySem.Spec PySem.W PyProof.Rows
def rIsTT (K:PySem.W.Frag):List V->Hp->VK->Prop:=λ xs H Q=>∃ (t:String) (x:V) (tp:Addr) (b:Bool),xs=[x,.ref tp]/\H tp=some (.tup [.ty "list",.ty "tuple"])/\TagV K H x t/\kitAny K (.type t) [.type "list",.type "tuple"]=some b/\Q (.bl b) H
theorem call_isTT {X:Cx}:CallR X (.builtin "isinstance") (rIsTT X.K):=by
 intro pins s σ H xs us Q I r h
 obtain⟨t,x,tp,b,rfl,ht,hd,e,q⟩:=h
 obtain⟨u,w',rfl,ru,rw'⟩:=vals2 r
 cases (show w'=Value.ref tp from rw')
 have fin:∀ tk,EP X pins σ Q (.bool b) { s with toks:=tk }:=λ tk=>⟨.bl b,H,I.tok tk,rfl,q⟩
 obtain⟨z,ws,r3,ot,o1,o2,n,o3⟩:=I.hok _ _ ht
 obtain⟨oc,odd,oda,osl⟩:=ot
 cases (show oc=_ from o2)
 cases (show oda=_ from o3)
 obtain⟨w1,w2,rfl,q1,q2⟩:=vals2 r3
 cases (show w1=Value.type "list" from q1)
 cases (show w2=Value.type "tuple" from q2)
 cases x with
 | non=>cases (show t=_ from hd);cases (show u=Value.none from ru);exact kia_tup kitx_none I.kIn True.intro o1 e (λ z=>nomatch z) fin
 | bl y=>cases (show t=_ from hd);cases (show u=Value.bool y from ru);exact kia_tup kitx_bool I.kIn True.intro o1 e (λ z=>nomatch z) fin
 | int y=>cases (show t=_ from hd);obtain⟨t,q⟩:=(show ∃ t,u=Value.int y t from ru);cases q;exact kia_tup kitx_int I.kIn True.intro o1 e (λ z=>nomatch z) fin
 | str y=>cases (show t=_ from hd);obtain⟨t,q⟩:=(show ∃ t,u=Value.str y t from ru);cases q;exact kia_tup kitx_str I.kIn True.intro o1 e (λ z=>nomatch z) fin
 | ref a=>
  cases ru
  rcases hd with⟨rfl,ys,q1⟩|⟨rfl,ys,q1⟩|⟨rfl,hk⟩
  ·obtain⟨its,_,p,_⟩:=I.tuple q1
   obtain⟨o,h1,h2,_⟩:=p
   exact kia_tup kitx_tuple I.kIn ⟨o,h1,h2⟩ o1 e (λ z=>nomatch z) fin
  ·obtain⟨its,_,p,_⟩:=I.list q1
   obtain⟨o,h1,h2,_⟩:=p.isList
   exact kia_tup kitx_list I.kIn ⟨o,h1,h2⟩ o1 e (λ z=>nomatch z) fin
  ·have z:∃ o,s.heap.get? a=some o/\o.ExactDict:=by
    rcases hk with⟨kvs,hk⟩|⟨kvs,hk⟩
    ·obtain⟨_,_,_,_,o,_,_,e,ex,_⟩:=I.hok a _ hk
     exact⟨o,e,ex⟩
    ·obtain⟨_,_,_,_,o,_,_,e,ex,_⟩:=I.hok a _ hk
     exact⟨o,e,ex⟩
   obtain⟨o,h1,h2⟩:=z
   exact kia_tup kitx_dict I.kIn ⟨o,h1,h2.1⟩ o1 e (λ z=>nomatch z) fin
 | byt y=>exact False.elim hd
 | flt y=>exact False.elim hd
 | ty y=>exact False.elim hd
theorem op_le_str {X:Cx}:OpR X (compareOp .LtE) (λ x y H Q=>∃ i j,x=.str i/\y=.str j/\Q (.bl (!decide (j.cps.toList < i.cps.toList))) H):=by
 intro pins s σ H x y v u Q I rx ry h
 obtain⟨i,j,rfl,rfl,q⟩:=h
 obtain⟨t,rfl⟩:=rx
 obtain⟨t',rfl⟩:=ry
 exact PySem.P.le_str (fin_bl I q rfl)
def rSlS:V->Option Int->Option Int->Hp->VK->Prop:=λ x lo hi H Q=>∃ z,x=.str z/\z.length<=sizeLine/\Q (.str (Txt.slice z lo hi)) H
theorem sl_str {X:Cx}:SlR X rSlS:=by
 intro pins s σ H x v vl vu lo hi sl Q I rx hs pl pu h
 obtain⟨z,rfl,hz,q⟩:=h
 obtain⟨t,rfl⟩:=rx
 refine⟨"str",_,PySem.F.slot_str_getitem.lookup,typeIs_str _ _ _,?_⟩
 have fin:∀ (t':Tok) (k:Nat),EP X pins σ Q (.str (Txt.slice z lo hi) t') { s with toks:=k }:=λ t' k=>⟨.str _,H,I.tok _,⟨_,rfl⟩,q⟩
 cases pl<;>cases pu
 ·exact wpAny_getItem_str_slice (l:=none) (u:=none) (st:=none) hs rfl (post_val_or_str ⟨Nat.le_trans (Txt.slice_le z _ _) hz,fin⟩)
 ·exact wpAny_getItem_str_slice (l:=none) (u:=some (_,_)) (st:=none) hs rfl (post_val_or_str ⟨Nat.le_trans (Txt.slice_le z _ _) hz,fin⟩)
 ·exact wpAny_getItem_str_slice (l:=some (_,_)) (u:=none) (st:=none) hs rfl (post_val_or_str ⟨Nat.le_trans (Txt.slice_le z _ _) hz,fin⟩)
 ·exact wpAny_getItem_str_slice (l:=some (_,_)) (u:=some (_,_)) (st:=none) hs rfl (post_val_or_str ⟨Nat.le_trans (Txt.slice_le z _ _) hz,fin⟩)
theorem strs_of_keys {P:Program}{w:World}:∀ {vs:List Value}{ns:List Str},Sx.Keys (PySem.strKind P w) vs ns->StrsAre vs ns
 | [],[],_=>.nil
 | v :: vs,n :: ns,h=>by
  obtain⟨t,e⟩:=Value.isStrOf_shape (show Value.isStrOf n v=true from h.1)
  subst e
  exact .cons n t (strs_of_keys h.2)
 | [],_ :: _,h=>h.elim
 | _ :: _,[],h=>h.elim
def rSortSS {P:Program}{w:World}(knd:PySem.KeyKind P w Str):List V->Hp->VK->Prop:=λ xs H Q=>∃ (d:Addr) (ks:List Str),xs=[.ref d]/\H d=some (setO knd d ks)/\ks.length < 64/\∀ l,H l=none->Q (.ref l) (upd H l (.lst ((sortS ks).map V.str)))
theorem call_sortSS {X:Cx}(hc:X.calm=true):CallR X (.builtin "sorted") (rSortSS (PySem.strKind X.prog X.w)):=by
 rintro pins s σ H xs us Q I rv ⟨d,ks,rfl,hH,h64,q⟩
 obtain⟨u,rfl,ru⟩:=rv.one
 cases (show u=Value.ref d from ru)
 have hS:Sx.SetK (PySem.strKind X.prog X.w) s.heap d ks:=(I.hok d _ hH).1
 refine PySem.Calls.call_function_entry kind_sorted plain_sorted entry_sorted (args_sorted1 _) ?_
 unfold Builtin.«sorted»
 refine wpAny_bind (m:=checkCount "sorted" 1 1 _) (wpAny_pure ?_)
 refine wpAny_bind (Sx.set_collect (A:=X.A.in1) (I.ok.hd hc) hS λ h' tk dr vs ks' hkp k1 k2=>?_)
 have hI:=strs_of_keys k1
 have hl:vs.length=ks.length:=by rw[k1.length,k2.length_eq]
 refine wpAny_bind (wpAny_newList ?_ (by rw[hl];exact Nat.le_of_lt (small1000 (by omega))))
 have hoL:(h'.push (seqObj "list" vs.toArray 0)).get? h'.objs.size=some (seqObj "list" vs.toArray 0):=Heap.get?_push_size _ rfl
 refine wpAny_bind (wpAny_holding (wpAny_call_entry slot_list_sort ⟨_,hoL,rfl⟩ entry_list_sort (list_sort_treeK strKind_oneLt hoL hI.keysOf (λ v₁ v₂ rest e=>keyKind_strs (by rw[<-e];exact hI)) (by rw[hl];exact h64) λ st' a1 a2=>⟨_,rfl,?_⟩) (args_list_sort _)))
 obtain⟨ss',h1,h2,h3⟩:=sorted_out_str hI a1 a2
 have e1:ss'=sortS ks:=sortS_uniq (h2.trans k2) (sortedS_pair h3)
 subst e1
 have hold:∀ b u,s.heap.get? b=some u->b≠h'.objs.size:=λ b u e=>Nat.ne_of_lt (Heap.lt_size (hkp b u e))
 have hHn:H h'.objs.size=none:=by
  cases q0:H h'.objs.size with
  | none=>rfl
  | some o=>obtain⟨u,hu⟩:=(I.hok _ o q0).there2;exact absurd rfl (hold _ u hu)
 obtain⟨ec,hec⟩:=sortedHeap_at hoL (out:=(arrOf st').map (·.2))
 refine wpAny_pure ⟨_,rfl,.ref h'.objs.size,upd H h'.objs.size (.lst ((sortS ks).map V.str)),?_,rfl,q _ hHn⟩
 refine(I.drawn dr).grown (t':=tk) (λ b u e=>?_) (λ b u e=>upd_ne (hold b u e)) λ b o e z=>?_
 ·have e:s.heap.get? b=some u:=e
  rw[sortedHeap_old (hold b u e) (by rw[Heap.size_push];exact Nat.lt_succ_of_lt (Heap.lt_size (hkp b u e)))]
  exact Heap.get?_push_of_some _ (hkp b u e)
 ·by_cases hb:b=h'.objs.size
  ·subst hb
   rw[upd_same]at z
   cases z
   refine⟨by rw[List.length_map,h2.length_eq,k2.length_eq];exact Nat.le_of_lt (small1000 (by omega)),_,ec,vals_of_strsAre h1,?_⟩
   rw[hec]
  ·rw[upd_ne hb]at z
   obtain⟨u,hu⟩:=(I.hok b o z).there2
   have e:s.heap.get? b=none:=e
   rw[hu]at e;cases e
end L2
namespace Mm
open PySem L2 Sx
section
variable {T:Tx}{XE:XEt}{X:Cx}{pos:Pos}
def isLT (t:String):Bool:=t == "list" || t == "tuple"
def opIsLT (v:AV)(s:S):R AV:=need (tagOf v s) λ t=>.ok (.bl (isLT t)) s
theorem kit_lt {K:PySem.W.Frag}{t:String}(h:t∈tyTags):PySem.W.kitAny K (.type t) [.type "list",.type "tuple"]=some (isLT t):=by
 simp only[tyTags,List.mem_cons,List.not_mem_nil,or_false]at h
 rcases h with rfl|rfl|rfl|rfl|rfl|rfl|rfl<;>(first|rfl|decide +kernel)
theorem me_isLT {p p2 p3 p4:Pos}{k:Nat}{e:Expr}{m:Ev}(hK:X.K=T.K)(hm:X.mg "isinstance"=none)(hm1:X.mg "list"=none)(hm2:X.mg "tuple"=none)(ha:PE X e (tE T XE m)) (hg:Gl X "isinstance":=by rfl)(hg1:Gl X "list":=by rfl)(hg2:Gl X "tuple":=by rfl)
  (he:starEach [e,.Tuple [.Name "list" p3,.Name "tuple" p4] k p2] X.env=(false,eval e X.env) :: starEach [.Tuple [.Name "list" p3,.Name "tuple" p4] k p2] X.env:=by rfl) (he2:starEach [.Tuple [.Name "list" p3,.Name "tuple" p4] k p2] X.env=(false,eval (.Tuple [.Name "list" p3,.Name "tuple" p4] k p2) X.env) :: starEach [] X.env:=by rfl)
  (hpl:(backTo pos (starEach [.Tuple [.Name "list" p3,.Name "tuple" p4] k p2] X.env)).any (·.1)=false:=by rfl)
  (hs3:starEach [.Name "list" p3,.Name "tuple" p4] X.env=(false,eval (.Name "list" p3) X.env) :: starEach [.Name "tuple" p4] X.env:=by rfl) (hs4:starEach [.Name "tuple" p4] X.env=(false,eval (.Name "tuple" p4) X.env) :: starEach [] X.env:=by rfl) :
  PE X (.Call (.Name "isinstance" p) [e,.Tuple [.Name "list" p3,.Name "tuple" p4] k p2] [] pos) (tE T XE (mUn opIsLT m)):=
 PE.imp (pe_callB call_isTT hg hm Ro.boot_isinstance (pa_cons ha (pa_cons (pe_tup (pa_cons (pe_bltn (v:=.ty "list") hg1 hm1 Ro.boot_list rfl) (pa_cons (pe_bltn (v:=.ty "tuple") hg2 hm2 Ro.boot_tuple rfl) pa_nil hs4) hs3)) pa_nil he2) he) (by decide) (by decide) he hpl) λ σ H Q ⟨ρ,env,s,hs,he,ho⟩=>
  step hs he ho λ v s1 ρ1 H1 x _ u1 sr1 er1 vr1 ho1=>by
   obtain⟨t,e,ho1⟩:=ho1.needInv
   obtain⟨h1,h2⟩:=tag_inv e sr1 vr1
   refine⟨by show(2:Nat)<=sizeLine;rw[sizeLine_eq];decide,λ tp hn=>⟨t,x,tp,_,rfl,upd_same,?_,kit_lt h2,(Out.up (sr1.upNew hn) ho1).hereV (sr1.new hn) vr_bl⟩⟩
   rw[hK]
   exact(tag_inv e (sr1.new (o:=.tup [.ty "list",.ty "tuple"]) hn) (VR.up (sr1.upNew hn) vr1)).1
def opLeS:AV->AV->S->R AV
 | .str i,.str j,s=>.ok (.bl (!decide (j.cps.toList < i.cps.toList))) s
 | _,_,_=>.bad
theorem oLeS:OpR X (compareOp .LtE) (r2M T XE opLeS):=by
 intro pins s σ H x y v u Q I rx ry ⟨ρ,a,b,st,sr,va,vb,ho⟩
 cases a<;>cases b<;>try exact ho.elim
 exact op_le_str pins s σ H x y v u Q I rx ry ⟨_,_,va.str_inv,vb.str_inv,ho.hereV sr vr_bl⟩
def opNinS:AV->AV->S->R AV
 | .str a,.str b,s=>.ok (.bl (!(Txt.contains b a))) s
 | _,_,_=>.bad
theorem oNinS:OpR X (compareOp .NotIn) (r2M T XE opNinS):=by
 intro pins s σ H x y v u Q I rx ry ⟨ρ,a,b,st,sr,va,vb,ho⟩
 cases a<;>cases b<;>try exact ho.elim
 exact op_notin_str pins s σ H x y v u Q I rx ry ⟨_,_,va.str_inv,vb.str_inv,ho.hereV sr vr_bl⟩
theorem swaps_list {v:List Expr}{p:Pos}{x:Str}{q:Pos}{n:Nat}{env:Env}:swapsWith (.List v p) (some (.Name x q)) n env=pure false:=rfl
theorem ms_setL {i:Nat}{x:Str}{v:List Expr}{p pos':Pos}{l:Evs}(hN:X.N.Nodup)(he:PA X v (tP T XE l)) (hi:X.N[i]? = some x)(hx:Loc X.env.scope x)(hf:X.fn x=true∨X.env.scope.names.lookup x=some .local) :
  PS X (.Assign [.Name x pos'] (.List v p) pos) (tS T XE (sSet i (mNew (lLst l)))):=ms_set hN (me_new (ml_lst he)) hi hx swaps_list hf
def opIsB:AV->AV->S->R AV
 | .bl a,.bl b,s=>.ok (.bl (a == b)) s
 | _,_,_=>.bad
theorem oIsB:OpR X (compareOp .Is) (r2M T XE opIsB):=by
 intro pins s σ H x y v u Q I rx ry ⟨ρ,a,b,st,sr,va,vb,ho⟩
 cases a<;>cases b<;>try exact ho.elim
 have e1:=va.bl_inv
 have e2:=vb.bl_inv
 subst e1;subst e2
 cases (show v=Value.bool _ from rx)
 cases (show u=Value.bool _ from ry)
 exact PyProof.Rows.is_bool ⟨.bl _,H,I,rfl,ho.hereV sr vr_bl⟩
def opSlS (v:AV)(lo hi:Option Int)(s:S):R AV:=match v with
 | .str z=>if z.length<=sizeLine then .ok (.str (Txt.slice z lo hi)) s else .bad
 | _=>.bad
def mSlS (m:Ev)(lo hi:Eo):Ev:=λ env s=>(m env s).bind λ v s1=>(lo env s1).bind λ l s2=>(hi env s2).bind λ h s3=>opSlS v l h s3
theorem me_slS {e:Expr}{lo hi:Option Expr}{p2:Pos}{m:Ev}{ml mh:Eo}(he:PE X e (tE T XE m)) (hl:PO X lo (tO T XE ml)) (hh:PO X hi (tO T XE mh)):PE X (.Subscript e (.Slice lo hi none p2) pos) (tE T XE (mSlS m ml mh)):=
 PE.imp (pe_slice sl_str he hl hh) λ σ H Q ⟨ρ,env,s,hs,he,ho⟩=>
  step hs he ho λ v s1 ρ1 H1 x _ u1 sr1 er1 vr1 ho1=>step sr1 er1 ho1 λ l s2 ρ2 H2 l' _ u2 sr2 er2 e2 ho2=>step sr2 er2 ho2 λ h s3 ρ3 H3 h' _ u3 sr3 er3 e3 ho3=>by
   cases (show l=l' from e2)
   cases (show h=h' from e3)
   have vr1:VR T ρ1 H1 v x:=vr1
   cases v with
   | str z=>
    cases vr1.str_inv
    obtain⟨hz,ho4⟩:=ho3.ifInv
    exact⟨z,rfl,hz,ho4.hereV sr3 vr_str⟩
   | _=>exact ho3.elim
def setSortS (vs:List AV)(s:S):R (List AV):=need (txts vs) λ ns=>if ns.length < 64 then .ok ((sortS (uniq ns)).map .str) s else .bad
def gSetSV (m:Ev):Evs:=λ env s=>(m env s).bind λ v s1=>match v with
 | .ref i=>need (lstO s1 i) λ l=>setSortS l s1
 | _=>.bad
theorem ml_setSV {e:Expr}{p p2 pos2:Pos}{m:Ev}(hm:X.mg "sorted"=none)(hm2:X.mg "set"=none)(h:PE X e (tE T XE m)) (hcm:X.calm=true:=by rfl)(hg:Gl X "sorted":=by rfl)(hg2:Gl X "set":=by rfl)
  (he:starEach [.Call (.Name "set" p2) [e] [] pos2] X.env=(false,eval (.Call (.Name "set" p2) [e] [] pos2) X.env) :: starEach [] X.env:=by rfl) (hpl:(backTo pos (starEach [] X.env)).any (·.1)=false:=by rfl)
  (he2:starEach [e] X.env=(false,eval e X.env) :: starEach [] X.env:=by rfl) (hpl2:(backTo pos2 (starEach [] X.env)).any (·.1)=false:=by rfl) :
  PE X (.Call (.Name "sorted" p) [.Call (.Name "set" p2) [e] [] pos2] [] pos) (tL T XE (gSetSV m)):=
 PE.imp (pe_callB (call_sortSS hcm) hg hm PyProof.Rows.boot_sorted (pa_cons (pe_callTy (call_setOf hcm encS) hg2 hm2 boot_set (pa_cons h pa_nil he2) (by decide) (by decide) he2 hpl2) pa_nil he) (by decide) (by decide) he hpl) λ σ H Q ⟨ρ,env,s,hs,he,ho⟩=>step hs he ho λ v s1 ρ1 H1 x _ u1 sr1 er1 vr1 ho1=>by
  cases v with
  | ref i=>
   obtain⟨l,e1,ho2⟩:=ho1.needInv
   obtain⟨a,vs,rfl,ea,h1,k⟩:=sr1.lstAt (lstO_inv e1) vr1
   obtain⟨ns,e2,ho3⟩:=ho2.needInv
   obtain⟨hl,ho4⟩:=ho3.ifInv
   rw[txts_inv e2]at k
   cases k.strs_inv
   refine⟨a,ns,rfl,h1,small64 hl,λ d hd=>⟨d,uniq ns,rfl,upd_same,?_,λ l hl'=>?_⟩⟩
   ·have:=fold_len ns []
    unfold uniq
    simp only[List.length_nil]at this
    omega
   ·exact(Out.up (sr1.upNew hd) ho4).lst (sr1.new hd) hl' (VRs.map (λ _=>vr_str) _)
  | _=>exact ho1.elim
end
mutual
def depA:AV->Nat
 | .tup xs=>depAs xs+1
 | .sq xs=>depAs xs+1
 | _=>0
def depAs:List AV->Nat
 | []=>0
 | v :: r=>max (depA v) (depAs r)
end
theorem depAs_mem:∀ {l:List AV}{v:AV},v∈l->depA v<=depAs l
 | a :: r,v,h=>by
  rcases List.mem_cons.mp h with rfl|h
  ·exact Nat.le_max_left _ _
  ·exact Nat.le_trans (depAs_mem h) (Nat.le_max_right _ _)
section
variable {T:Tx}{XE:XEt}{X:Cx}{pins:List (Addr × Obj)}{σ:St}{H:Hp}{s:Shared}{ρ:List Addr}
theorem allT (n:Nat):((List.range n).all λ _=>true)=true:=by simp
theorem its_alike {A:Around}{l:List AV}{xs ys:List V}{its its2:List Value}(ih:∀ v∈l,∀ {x y:V}{u z:Value},VR T ρ H v x->VR T ρ H v y->RelV x u->RelV y z->SeqAt.EqAt A s u z true)
  (h:VRs T ρ H l xs) (h':VRs T ρ H l ys) (r:Vals xs its) (r':Vals ys its2):∀ j (h1:j < its.toArray.size) (h2:j < its2.toArray.size),SeqAt.EqAt A s its.toArray[j] its2.toArray[j] true:=by
 induction l generalizing xs ys its its2 with
 | nil=>cases h.nil_inv;cases r;intro j h1;simp at h1
 | cons v l il=>
  obtain⟨x,xs',rfl,k1,k2⟩:=h.cons_inv
  obtain⟨y,ys',rfl,k3,k4⟩:=h'.cons_inv
  cases r with
  | cons r1 r2=>
   cases r' with
   | cons q1 q2=>
    intro j h1 h2
    cases j with
    | zero=>exact ih v (.head _) k1 k3 r1 q1
    | succ j=>exact il (λ w hw=>ih w (.tail _ hw)) k2 k4 r2 q2 j (by simpa using h1) (by simpa using h2)
theorem eq_alike (hK:X.K=T.K)(I:Inv X pins σ H s):∀ (k:Nat) (A:Around),A.units+k < cLine->∀ (v:AV) {x y:V}{u z:Value},depA v<=k->VR T ρ H v x->VR T ρ H v y->RelV x u->RelV y z->SeqAt.EqAt A s u z true:=by
 intro k
 induction k with
 | zero=>
  intro A hA v x y u z hd h h' r r'
  cases v with
  | non=>cases h.non_inv;cases h'.non_inv;have:=eqAt_V (A:=A) (s:=s) r r' rfl rfl;simpa[eqV]using this
  | bl b=>cases h.bl_inv;cases h'.bl_inv;have:=eqAt_V (A:=A) (s:=s) r r' rfl rfl;simpa[eqV]using this
  | int b=>cases h.int_inv;cases h'.int_inv;have:=eqAt_V (A:=A) (s:=s) r r' rfl rfl;simpa[eqV]using this
  | str b=>cases h.str_inv;cases h'.str_inv;have:=eqAt_V (A:=A) (s:=s) r r' rfl rfl;simpa[eqV]using this
  | ref i=>
   obtain⟨a,e1,rfl⟩:=h.ref_inv
   obtain⟨b,e2,rfl⟩:=h'.ref_inv
   rw[e1]at e2;cases e2
   cases r;cases r'
   exact SeqAt.EqAt.same _
  | tup xs=>simp[depA]at hd
  | sq xs=>simp[depA]at hd
 | succ k ih=>
  intro A hA v x y u z hd h h' r r'
  have hu:A.units < cLine:=by omega
  have hA':A.in1.units+k < cLine:=by have:A.in1.units=A.units+1:=rfl;omega
  cases v with
  | non=>cases h.non_inv;cases h'.non_inv;have:=eqAt_V (A:=A) (s:=s) r r' rfl rfl;simpa[eqV]using this
  | bl b=>cases h.bl_inv;cases h'.bl_inv;have:=eqAt_V (A:=A) (s:=s) r r' rfl rfl;simpa[eqV]using this
  | int b=>cases h.int_inv;cases h'.int_inv;have:=eqAt_V (A:=A) (s:=s) r r' rfl rfl;simpa[eqV]using this
  | str b=>cases h.str_inv;cases h'.str_inv;have:=eqAt_V (A:=A) (s:=s) r r' rfl rfl;simpa[eqV]using this
  | ref i=>
   obtain⟨a,e1,rfl⟩:=h.ref_inv
   obtain⟨b,e2,rfl⟩:=h'.ref_inv
   rw[e1]at e2;cases e2
   cases r;cases r'
   exact SeqAt.EqAt.same _
  | tup xs=>
   obtain⟨a,vs,rfl,h1,k1⟩:=h.tup_inv
   obtain⟨b,ws,rfl,h2,k2⟩:=h'.tup_inv
   cases r;cases r'
   by_cases hab:a=b
   ·subst hab;exact SeqAt.EqAt.same _
   ·obtain⟨its,r1,p1,_⟩:=I.tuple (hK ▸ h1)
    obtain⟨its2,r2,p2,_⟩:=I.tuple (hK ▸ h2)
    refine SeqAt.EqAt.of_refs hab ?_
    have:=SeqAt.RcAt.tuples (A:=A) (s:=s) p1 p2 hu (its_alike (A:=A.in1) (λ v hv=>ih A.in1 hA' v (by have:=depAs_mem hv;simp only[depA]at hd;omega)) k1 k2 r1 r2)
    have n:its.toArray.size=its2.toArray.size:=by simp;rw[<-r1.length,<-r2.length,<-k1.length,<-k2.length]
    rw[n,allT]at this
    simpa using this
  | sq xs=>
   obtain⟨a,vs,rfl,h1,k1⟩:=h.sq_inv
   obtain⟨b,ws,rfl,h2,k2⟩:=h'.sq_inv
   cases r;cases r'
   by_cases hab:a=b
   ·subst hab;exact SeqAt.EqAt.same _
   ·obtain⟨its,r1,p1,_⟩:=I.list (hK ▸ h1.sqL)
    obtain⟨its2,r2,p2,_⟩:=I.list (hK ▸ h2.sqL)
    refine SeqAt.EqAt.of_refs hab ?_
    have n:its.toArray.size=its2.toArray.size:=by simp;rw[<-r1.length,<-r2.length,<-k1.length,<-k2.length]
    have:=SeqAt.RcAt.lists (A:=A) (s:=s) p1.isList p2.isList n hu (its_alike (A:=A.in1) (λ v hv=>ih A.in1 hA' v (by have:=depAs_mem hv;simp only[depA]at hd;omega)) k1 k2 r1 r2)
    rw[allT]at this
    simpa using this
end
def copyOf (s:S)(v w:AV):Prop:=(v=w/\depA v<=10)∨∃ i j xs,v=.ref i/\w=.ref j/\lstO s i=some xs/\lstO s j=some xs/\depAs xs<=10
open Classical in
noncomputable def opEqC:AV->AV->S->R AV
 | .tup [a,b],.tup [c,d],s=>if copyOf s a c/\copyOf s b d then .ok (.bl true) s else .bad
 | _,_,_=>.bad
section
variable {T:Tx}{XE:XEt}{X:Cx}{pos:Pos}
theorem eq_copy {pins:List (Addr × Obj)}{σ:St}{H:Hp}{s:Shared}{ρ:List Addr}{st:S}(hK:X.K=T.K)(I:Inv X pins σ H s)(sr:SR T ρ st H){A:Around}(hA:A.units+12 < cLine){v w:AV}(c:copyOf st v w){x y:V}{u z:Value}(h:VR T ρ H v x)(h':VR T ρ H w y)(r:RelV x u)(r':RelV y z):SeqAt.EqAt A s u z true:=by
 rcases c with⟨rfl,hd⟩|⟨i,j,xs,rfl,rfl,e1,e2,hd⟩
 ·exact eq_alike hK I 10 A (by omega) v hd h h' r r'
 ·obtain⟨a,vs,rfl,_,h1,k1⟩:=sr.lstAt (lstO_inv e1) h
  obtain⟨b,ws,rfl,_,h2,k2⟩:=sr.lstAt (lstO_inv e2) h'
  cases r;cases r'
  by_cases hab:a=b
  ·subst hab;exact SeqAt.EqAt.same _
  ·obtain⟨its,r1,p1,_⟩:=I.list (SqL.of h1)
   obtain⟨its2,r2,p2,_⟩:=I.list (SqL.of h2)
   refine SeqAt.EqAt.of_refs hab ?_
   have n:its.toArray.size=its2.toArray.size:=by simp;rw[<-r1.length,<-r2.length,<-k1.length,<-k2.length]
   have hA':A.in1.units+10 < cLine:=by have:A.in1.units=A.units+1:=rfl;omega
   have:=SeqAt.RcAt.lists (A:=A) (s:=s) p1.isList p2.isList n (by omega) (its_alike (A:=A.in1) (λ v hv=>eq_alike hK I 10 A.in1 hA' v (by have:=depAs_mem hv;omega)) k1 k2 r1 r2)
   rw[allT]at this
   simpa using this
theorem oEqC (hK:X.K=T.K)(hu:X.A.units+30 < cLine):OpR X (compareOp .Eq) (r2M T XE opEqC):=by
 intro pins s σ H x y v u Q I rx ry ⟨ρ,a,b,st,sr,va,vb,ho⟩
 unfold opEqC at ho
 split at ho
 ·rename_i a b c d
  obtain⟨⟨c1,c2⟩,ho⟩:=ho.ifInv
  obtain⟨p,vs,rfl,h1,k1⟩:=va.tup_inv
  obtain⟨q,ws,rfl,h2,k2⟩:=vb.tup_inv
  obtain⟨x1,x2,rfl,a1,a2⟩:=k1.two_inv
  obtain⟨y1,y2,rfl,b1,b2⟩:=k2.two_inv
  cases rx;cases ry
  obtain⟨its,r1,p1,_⟩:=I.tuple (hK ▸ h1)
  obtain⟨its2,r2,p2,_⟩:=I.tuple (hK ▸ h2)
  obtain⟨u1,u2,rfl,f1,f2⟩:=vals2 r1
  obtain⟨z1,z2,rfl,g1,g2⟩:=vals2 r2
  have hA':X.A.in1.units+12 < cLine:=by have:X.A.in1.units=X.A.units+1:=rfl;omega
  have:=SeqAt.RcAt.tuples (A:=X.A) (s:=s) (e:=λ _=>true) p1 p2 (by omega) (λ j h3 h4=>by
   match j,h3,h4 with
   | 0,_,_=>exact eq_copy hK I sr hA' c1 a1 b1 f1 g1
   | 1,_,_=>exact eq_copy hK I sr hA' c2 a2 b2 f2 g2)
  have hb:=ho.hereV sr (vr_bl (T:=T) (ρ:=ρ) (H:=H))
  exact this X.prog X.w _ _ ⟨.bl true,H,I,rfl,by simpa using hb⟩
 ·exact ho.elim
end
end Mm
namespace L2
open PySem PySem.Spec PyProof.Rows
section
variable {prog:Program}{w:World}{A:Around}{E:Value->Shared->Prop}{s:Shared}
theorem new_zipTL (l m:Addr)(xs ys:Array Value) :
  Meets (Builtin.«zip.__new__» ⟨[.type "zip",.ref l,.ref m],[]⟩) (λ _ R s=>s.heap.IsTuple l xs/\s.heap.IsList m ys/\
   R (.ok (.ret (.ref (s.heap.objs.size+4)))) { s with heap:=((((s.heap.push { cls:=.type "tuple_iterator",data:=.fields #[.ref l,.int 0 0] }).push { cls:=.type "list_iterator",data:=.fields #[.ref m,.int 0 0] }).push
    { cls:=.type "tuple",data:=.seq #[.ref s.heap.objs.size,.ref (s.heap.objs.size+1)] }).push { cls:=.type "tuple",data:=.seq #[.none,.none] }).push { cls:=.type "zip",data:=.fields #[.none,.bool false,.bool false,.ref (s.heap.objs.size+2),.ref (s.heap.objs.size+3)] } }):=
 .of_wp λ prog w A R s h=>by
  obtain⟨hp,g,d,tk,os⟩:=s;obtain⟨hl1,hl2,h⟩:=h
  have hsub:=sub_zip
  have hL1:Heap.IsTuple (Shared.heap ⟨hp,g,d,tk,os⟩) l xs:=hl1
  have hL2:Heap.IsList (Shared.heap ⟨hp.push { cls:=.type "tuple_iterator",data:=.fields #[.ref l,.int 0 0] },g,d,tk,os⟩) m ys:=Heap.IsList.push hl2 _
  wp_walk using wpAny_pyIter_tuple hL1,wpAny_pyIter_list hL2
  simp only[Heap.size_push]at h ⊢
  exact⟨_,rfl,h⟩
theorem zip_madeM {c c2:Bool}{l m:Addr}{xs ys:Array Value}{Q:Value->Shared->Prop}(hcc:c=false->c2=false)(hl1:SeqK c s.heap l xs)(hl2:SeqK c2 s.heap m ys)
    (k:∀ h',ZK c c2 h' (s.heap.objs.size+4) (s.heap.objs.size+2) (s.heap.objs.size+3) s.heap.objs.size (s.heap.objs.size+1) l m 0->(∀ d o,s.heap.get? d=some o->h'.get? d=some o)->Q (.ref (s.heap.objs.size+4)) { s with heap:=h' }) :
    wpAny (model prog w) A (call (.type "zip") [.ref l,.ref m]) Q E s:=by
  cases c with
  | false=>cases hcc rfl;exact zip_made hl1 hl2 k
  | true=>
   cases c2 with
   | true=>exact zip_made hl1 hl2 k
   | false=>
    refine callType_new F.called_zip (by decide) (F.typeCall_zip_2 _ _) (F.newCall_zip_2 _ _) (λ obj=>F.args_object_init_3 obj _ _) F.entry_zip_new (new_zipTL l m xs ys) ⟨hl1,hl2,?_⟩
    have p:∀ (h:Heap) (o1 o2 o3 o4 o5:Obj) (d:Addr) (o:Obj),h.get? d=some o->(((((h.push o1).push o2).push o3).push o4).push o5).get? d=some o:=λ h o1 o2 o3 o4 o5 d o e=>
      Heap.get?_push_of_some _ (Heap.get?_push_of_some _ (Heap.get?_push_of_some _ (Heap.get?_push_of_some _ (Heap.get?_push_of_some _ e))))
    have q5:∀ (h:Heap) (o1 o2 o3 o4 o5:Obj),o5.isFreed=false->(((((h.push o1).push o2).push o3).push o4).push o5).get? (h.objs.size+4)=some o5:=λ h o1 o2 o3 o4 o5 f=>by
      have e:h.objs.size+4=((((h.push o1).push o2).push o3).push o4).objs.size:=by simp only[Heap.size_push]
      rw[e];exact Heap.get?_push_size _ f
    have q4:∀ (h:Heap) (o1 o2 o3 o4 o5:Obj),o4.isFreed=false->(((((h.push o1).push o2).push o3).push o4).push o5).get? (h.objs.size+3)=some o4:=λ h o1 o2 o3 o4 o5 f=>by
      have e:h.objs.size+3=(((h.push o1).push o2).push o3).objs.size:=by simp only[Heap.size_push]
      rw[e];exact Heap.get?_push_of_some _ (Heap.get?_push_size _ f)
    have q3:∀ (h:Heap) (o1 o2 o3 o4 o5:Obj),o3.isFreed=false->(((((h.push o1).push o2).push o3).push o4).push o5).get? (h.objs.size+2)=some o3:=λ h o1 o2 o3 o4 o5 f=>by
      have e:h.objs.size+2=((h.push o1).push o2).objs.size:=by simp only[Heap.size_push]
      rw[e];exact Heap.get?_push_of_some _ (Heap.get?_push_of_some _ (Heap.get?_push_size _ f))
    have q2:∀ (h:Heap) (o1 o2 o3 o4 o5:Obj),o2.isFreed=false->(((((h.push o1).push o2).push o3).push o4).push o5).get? (h.objs.size+1)=some o2:=λ h o1 o2 o3 o4 o5 f=>by
      have e:h.objs.size+1=(h.push o1).objs.size:=by simp only[Heap.size_push]
      rw[e];exact Heap.get?_push_of_some _ (Heap.get?_push_of_some _ (Heap.get?_push_of_some _ (Heap.get?_push_size _ f)))
    have q1:∀ (h:Heap) (o1 o2 o3 o4 o5:Obj),o1.isFreed=false->(((((h.push o1).push o2).push o3).push o4).push o5).get? h.objs.size=some o1:=λ h o1 o2 o3 o4 o5 f=>
      Heap.get?_push_of_some _ (Heap.get?_push_of_some _ (Heap.get?_push_of_some _ (Heap.get?_push_of_some _ (Heap.get?_push_size _ f))))
    exact⟨⟨_,q5 _ _ _ _ _ _ rfl,rfl⟩,k _ ⟨q5 _ _ _ _ _ _ rfl,q3 _ _ _ _ _ _ rfl,⟨_,_,q4 _ _ _ _ _ _ rfl⟩,⟨_,q1 _ _ _ _ _ _ rfl,rfl,rfl⟩,⟨_,q2 _ _ _ _ _ _ rfl,rfl,rfl⟩⟩ λ d o e=>p _ _ _ _ _ _ d o e⟩
end
def Itm (c e:Bool)(K:PySem.W.Frag)(a b:Addr):It:=
  ⟨λ i H=>∃ xs ys x y,SqK c K H a xs/\SqK e K H b ys/\xs[i]? = some x/\ys[i]? = some y,
   λ i H v H'=>∃ T x y,v=.ref T/\H T=none/\H'=upd H T (.tup [x,y])/\∀ xs ys,SqK c K H a xs->SqK e K H b ys->xs[i]? = some x/\ys[i]? = some y,
   λ i H=>∃ xs ys,SqK c K H a xs/\SqK e K H b ys/\(xs.length<=i∨ys.length<=i)⟩
theorem turn_zipM {P:Program}{w:World}{K:PySem.W.Frag}{es:List Expr}{kk:Nat}{tpos:Pos}(c c2:Bool)(l m z a b i j:Addr)(D:ZipApart z a b i j l m) :
  Turn P w K (.Tuple es kk tpos) (Itm c c2 K l m) [z,a,b,i,j] z (λ n h=>ZK c c2 h z a b i j l m n) where
 mem:=by simp
 obj:=λ n h st d hd=>by
  obtain⟨hz,hTI,⟨p1,p2,hTO⟩,h1,h2⟩:=st
  simp only[List.mem_cons,List.not_mem_nil,or_false]at hd
  rcases hd with rfl|rfl|rfl|rfl|rfl
  ·exact⟨_,hz,λ v e=>nomatch e⟩
  ·exact⟨_,hTI,λ v e=>nomatch e⟩
  ·exact⟨_,hTO,λ v e=>nomatch e⟩
  ·exact h1.obj
  ·exact h2.obj
 keep:=λ n h h' st k=>by
  obtain⟨hz,hTI,⟨p1,p2,hTO⟩,h1,h2⟩:=st
  exact⟨k z (by simp) _ hz,k a (by simp) _ hTI,⟨p1,p2,k b (by simp) _ hTO⟩,h1.at λ o e=>k i (by simp) o e,h2.at λ o e=>k j (by simp) o e⟩
 item:=by
  intro X hP hw hK hc n pins s σ H E I hf st hg
  subst hP hw hK
  obtain⟨xs,ys,x,y,hq1,hq2,hx,hy⟩:=hg
  obtain⟨its1,r1,p1⟩:=I.sqK hq1
  obtain⟨its2,r2,p2⟩:=I.sqK hq2
  obtain⟨u1,e1,ru1⟩:=r1.get hx
  obtain⟨u2,e2,ru2⟩:=r2.get hy
  refine zK_item D st p1 p2 (by simpa using e1) (by simpa using e2) λ h' z1 a1 b1 i1 j1 T1 kp=>?_
  refine⟨_,rfl,wpAny_letOwnedTupleGo_zip (s:={ s with heap:=h' }) z1 λ h2 z2 t2=>?_⟩
  have hTn:H s.heap.objs.size=none:=I.hok.fresh (Nat.le_refl _)
  have zT:s.heap.objs.size≠z:=Nat.ne_of_gt (Heap.lt_size (show s.heap.get? z=some _ from st.zz))
  have kp2:∀ d o,d∉[z,a,b,i,j]->s.heap.get? d=some o->h2.get? d=some o:=λ d o hd e=>by
   simp only[List.mem_cons,List.not_mem_nil,or_false,not_or]at hd
   exact t2.extBut _ _ hd.1 (kp d o hd.1 hd.2.2.1 hd.2.2.2.1 hd.2.2.2.2 e)
  have T2:IsPair h2 s.heap.objs.size u1 u2:=t2.extBut _ _ zT T1
  have nfp:∀ d o,H d=some o->d∉[z,a,b,i,j]:=λ d o e hd=>by rw[(hf d hd).1]at e;cases e
  have nT:∀ d o,H d=some o->d≠s.heap.objs.size:=λ d o e q=>by rw[q,hTn]at e;cases e
  have newOk:HOk X.prog X.w (upd H s.heap.objs.size (.tup [x,y])) h2:=by
   intro d o e
   by_cases hd:d=s.heap.objs.size
   ·subst hd
    rw[upd_same]at e
    cases e
    exact⟨by show 2<=sizeLine;decide,[u1,u2],.cons ru1 (.cons ru2 .nil),_,T2,rfl,0,rfl⟩
   ·rw[upd_ne hd]at e
    refine(I.hok d o e).stay (λ q v hq r=>kp2 q v ?_ r) (λ q r=>by rw[upd_ne (nT q _ r)];exact r) (λ q xs' r=>by rw[upd_ne (nT q _ r)];exact r)
    rcases hq with rfl|hq
    ·exact nfp _ _ e
    ·exact nfp _ _ hq
  have I2:Inv X pins σ (upd H s.heap.objs.size (.tup [x,y])) { s with heap:=h2 }:=by
   refine I.step (g':=s.gens) (d':=s.drawn) (t':=s.toks) (ch:=[z,a,b,i,j]) (λ d hd=>⟨(hf d hd).2.2.2.1,(hf d hd).2.1,(hf d hd).2.2.2.2.1,(hf d hd).2.2.2.2.2⟩) (λ d o _ _ hd e _=>kp2 d o hd e) (λ d o _ _ hd e _=>⟨o.slots,kp2 d o hd e⟩)
    (λ d o hd e nn=>by rw[upd_ne (Nat.ne_of_lt (Heap.lt_size e))];exact nn) (λ d o hd e=>⟨o,kp2 d o hd e⟩) (λ d xs' e=>by rw[upd_ne (nT d _ e)];exact e) (λ d o u e=>by rw[upd_ne (nT d _ e)];exact e)
    (λ d ps e=>⟨#[],by rw[upd_ne (nT d _ e),e];simp⟩) (λ mm hm=>?_) newOk I.bare
   obtain⟨o,es',ep,ho,r⟩:=hm
   exact⟨o,es',ep,kp2 _ o (λ hd=>(hf _ hd).2.1 rfl) ho,r⟩
  refine⟨.ref s.heap.objs.size,_,I2,rfl,⟨_,x,y,rfl,hTn,rfl,λ xs' ys' k1 k2=>?_⟩,?_,λ d hd=>?_⟩
  ·rw[I.sqK_inj k1 hq1,I.sqK_inj k2 hq2]
   exact⟨hx,hy⟩
  ·exact⟨z2,t2.extBut _ _ D.TIz a1,⟨_,_,t2.extBut _ _ D.TOz b1⟩,i1.at λ o e=>t2.extBut _ _ D.i1z e,j1.at λ o e=>t2.extBut _ _ D.i2z e⟩
  ·have hdn:d≠s.heap.objs.size:=by
    rintro rfl
    have lt:∀ {q:Addr}{o:Obj},s.heap.get? q=some o->s.heap.objs.size≠q:=λ e=>Nat.ne_of_gt (Heap.lt_size e)
    simp only[List.mem_cons,List.not_mem_nil,or_false]at hd
    obtain⟨o1,g1,_⟩:=st.i1.obj
    obtain⟨o2,g2,_⟩:=st.i2.obj
    obtain⟨y1,y2,g3⟩:=st.out
    rcases hd with q|q|q|q|q
    ·exact lt st.zz q
    ·exact lt st.ins q
    ·exact lt g3 q
    ·exact lt g1 q
    ·exact lt g2 q
   rw[upd_ne hdn]
   exact(hf d hd).1
 done:=by
  intro X hP hw hK hc n pins s σ H E I hf st hg
  subst hP hw hK
  obtain⟨xs,ys,hq1,hq2,hx⟩:=hg
  obtain⟨its1,r1,p1⟩:=I.sqK hq1
  obtain⟨its2,r2,p2⟩:=I.sqK hq2
  have n1:=r1.length
  have n2:=r2.length
  refine zK_end (I.ok.hd hc) D st p1 p2 (hx.elim (λ q=>.inl (by simp;omega)) λ q=>.inr (by simp;omega)) λ h' kp=>⟨rfl,?_⟩
  have kp2:∀ d o,d∉[z,a,b,i,j]->s.heap.get? d=some o->h'.get? d=some o:=λ d o hd e=>by
   simp only[List.mem_cons,List.not_mem_nil,or_false,not_or]at hd
   exact kp d o hd.1 hd.2.2.1 hd.2.2.2.1 hd.2.2.2.2 e
  have nfp:∀ d o,H d=some o->d∉[z,a,b,i,j]:=λ d o e hd=>by rw[(hf d hd).1]at e;cases e
  have there:∀ d o,s.heap.get? d=some o->d∉[z,a,b,i,j]->∃ o',h'.get? d=some o':=λ d o e hd=>⟨o,kp2 d o hd e⟩
  refine I.step (g':=s.gens) (d':=s.drawn) (t':=s.toks) (ch:=[z,a,b,i,j]) (λ d hd=>⟨(hf d hd).2.2.2.1,(hf d hd).2.1,(hf d hd).2.2.2.2.1,(hf d hd).2.2.2.2.2⟩) (λ d o _ _ hd e _=>kp2 d o hd e) (λ d o _ _ hd e _=>⟨o.slots,kp2 d o hd e⟩)
   (λ d o hd e nn=>nn) (λ d o hd e=>⟨o,kp2 d o hd e⟩) (λ d xs' e=>e) (λ d o u e=>e) (λ d ps e=>⟨#[],by rw[e];simp⟩) (λ mm hm=>?_) (λ d o e=>?_) I.bare
  ·obtain⟨o,es',ep,ho,r⟩:=hm
   exact⟨o,es',ep,kp2 _ o (λ hd=>(hf _ hd).2.1 rfl) ho,r⟩
  ·refine(I.hok d o e).stay (λ q v hq r=>kp2 q v ?_ r) (λ _ r=>r) (λ _ _ r=>r)
   rcases hq with rfl|hq
   ·exact nfp _ _ e
   ·exact nfp _ _ hq
 self:=λ _ _ _ _ _ st h=>wpAny_pyIter_zip st.zz h
def iZipM (K:PySem.W.Frag)(t:TA):TI:=λ σ H R=>t σ H λ vs H2=>∃ (c c2:Bool) (a b:Addr),(c=false->c2=false)/\vs=[.ref a,.ref b]/\(∃ xs,SqK c K H2 a xs)/\(∃ ys,SqK c2 K H2 b ys)/\R (Itm c c2 K a b) H2
theorem pi_zipM {X:Cx}{es:List Expr}{kk:Nat}{tpos:Pos}{e1 e2:Expr}{ta tb:TE}{p pos:Pos}(hg:Gl X "zip")(hm:X.mg "zip"=none)(h1:PE X e1 ta)(h2:PE X e2 tb)
  (hs:starEach [e1,e2] X.env=(false,eval e1 X.env) :: starEach [e2] X.env:=by rfl) (hs2:starEach [e2] X.env=[(false,eval e2 X.env)]:=by rfl) (hpl:(backTo pos (starEach [e2] X.env)).any (·.1)=false:=by rfl) :
  PI X (.Tuple es kk tpos) (.Call (.Name "zip" p) [e1,e2] [] pos) (iZipM X.K (tCons ta (tCons tb tNil))):=by
 intro pins s σ H R I h
 refine wpAny_Call_Name_kw (ld_blt I hg hm PyProof.Rows.boot_zip ?_)
 refine PyProof.Rows.callWith_type1 (thn ((pa_cons h1 (pa_cons h2 pa_nil hs2) hs) pos pins s σ H _ I h) λ us s1 ⟨vs,H1,I1,r1,q1⟩=>?_) hs hpl
 obtain⟨c,c2,a,b,hcc,rfl,⟨xs,hx⟩,⟨ys,hy⟩,q⟩:=q1
 obtain⟨u1,u2,rfl,ru1,ru2⟩:=vals2 r1
 cases ru1
 cases ru2
 obtain⟨its1,_,p1⟩:=I1.sqK hx
 obtain⟨its2,_,p2⟩:=I1.sqK hy
 have a1:a < s1.heap.objs.size:=by
  cases c with
  | true=>obtain⟨_,e,_⟩:=(show s1.heap.IsTuple a _ from p1);exact Heap.lt_size e
  | false=>obtain⟨_,e,_⟩:=(show s1.heap.IsList a _ from p1);exact Heap.lt_size e
 have a2:b < s1.heap.objs.size:=by
  cases c2 with
  | true=>obtain⟨_,e,_⟩:=(show s1.heap.IsTuple b _ from p2);exact Heap.lt_size e
  | false=>obtain⟨_,e,_⟩:=(show s1.heap.IsList b _ from p2);exact Heap.lt_size e
 refine zip_madeM hcc p1 p2 λ h' Z kp=>?_
 refine wpAny_pyIter_zip (s:={ s1 with heap:=h' }) Z.zz ?_
 refine⟨_,_,_,_,H1,rfl,I1.kept (t':=s1.toks) kp,turn_zipM c c2 a b _ _ _ _ _ (zipApart_new a1 a2),Z,λ d hd=>?_,q⟩
 have hle:s1.heap.objs.size<=d:=by
  simp only[List.mem_cons,List.not_mem_nil,or_false]at hd
  rcases hd with rfl|rfl|rfl|rfl|rfl
  ·exact Nat.le_add_right _ _
  ·exact Nat.le_add_right _ _
  ·exact Nat.le_add_right _ _
  ·exact Nat.le_refl _
  ·exact Nat.le_add_right _ _
 exact I1.fpOk hle (I1.hok.fresh hle)
end L2
namespace Mm
open PySem L2
section
variable {T:Tx}{XE:XEt}{X:Cx}{pos:Pos}
def kindOf:AV->Bool
 | .tup _=>true
 | _=>false
def zipM (v w:AV)(s:S):Option (List AV × Gd):=if kindOf v=false/\kindOf w=true then none else match seqK (kindOf v) v s,seqK (kindOf w) w s with
 | some (xs,g),some (ys,h)=>some (zipA xs ys,g++h)
 | _,_=>none
theorem zipM_inv {v w:AV}{s:S}{r:List AV × Gd}(h:zipM v w s=some r):∃ c c2 xs g ys h,(c=false->c2=false)/\seqK c v s=some (xs,g)/\seqK c2 w s=some (ys,h)/\r=(zipA xs ys,g++h):=by
 unfold zipM at h
 split at h
 ·cases h
 rename_i hcc
 split at h
 ·rename_i xs g ys h' e1 e2
  cases h
  exact⟨_,_,xs,g,ys,h',(λ z=>by cases q:kindOf w with|false=>rfl|true=>exact absurd ⟨z,q⟩ hcc),e1,e2,rfl⟩
 ·cases h
def srcZM (a b:Ev):Src:=λ env s=>(a env s).bind λ v s1=>(b env s1).bind λ w s2=>need (zipM v w s2) λ r=>.ok r s2
theorem mi_zipM {es:List Expr}{kk:Nat}{tpos:Pos}{e1 e2:Expr}{p:Pos}{a b:Ev}(hK:X.K=T.K)(hm:X.mg "zip"=none)(h1:PE X e1 (tE T XE a)) (h2:PE X e2 (tE T XE b)) (hg:Gl X "zip":=by rfl)
  (hs:starEach [e1,e2] X.env=(false,eval e1 X.env) :: starEach [e2] X.env:=by rfl) (hs2:starEach [e2] X.env=[(false,eval e2 X.env)]:=by rfl) (hpl:(backTo pos (starEach [e2] X.env)).any (·.1)=false:=by rfl) :
  PI X (.Tuple es kk tpos) (.Call (.Name "zip" p) [e1,e2] [] pos) (tW T XE (srcZM a b)):=
 PI.imp (pi_zipM hg hm h1 h2 hs hs2 hpl) λ σ H R ⟨ρ,env,s,hs,he,ho⟩=>step hs he ho λ v s1 ρ1 H1 x _ u1 sr1 er1 vr1 ho1=>step sr1 er1 ho1 λ w s2 ρ2 H2 y _ u2 sr2 er2 vr2 ho2=>by
  obtain⟨r,e,ho2⟩:=ho2.needInv
  obtain⟨c,c2,xs,g,ys,h,hcc,q1,q2,rfl⟩:=zipM_inv e
  obtain⟨a1,rfl,x1,w1⟩:=seqK_inv q1 sr2 (VR.up u2 vr1)
  obtain⟨a2,rfl,x2,w2⟩:=seqK_inv q2 sr2 vr2
  refine⟨c,c2,a1,a2,hcc,rfl,by rw[hK];exact x1,by rw[hK];exact x2,ho2 ρ2 H2 _ .refl sr2 ⟨λ ρ' s' H' u' sr' gk=>?_⟩⟩
  obtain⟨g1,g2⟩:=gOk_app gk
  obtain⟨vs,k1,k2⟩:=w1 ρ' s' H' u' sr' g1
  obtain⟨ws,k3,k4⟩:=w2 ρ' s' H' u' sr' g2
  rw[hK]
  have hl1:=k2.length
  have hl2:=k4.length
  refine⟨λ j z ez=>?_,⟨vs,ws,k1,k3,?_⟩⟩
  ·have hj:j < xs.length/\j < ys.length:=by
    have:=(List.getElem?_eq_some_iff.mp ez).1
    simp only[zipA,List.length_map,List.length_zip]at this
    omega
   have ez':z=.tup [xs[j],ys[j]]:=by
    have q:(zipA xs ys)[j]? = some (.tup [xs[j],ys[j]]):=by
     simp[zipA,List.getElem?_zip_eq_some,hj.1,hj.2]
    rw[q]at ez
    exact(Option.some.inj ez).symm
   subst ez'
   obtain⟨x3,e3,v3⟩:=k2.get (List.getElem?_eq_getElem hj.1)
   obtain⟨x4,e4,v4⟩:=k4.get (List.getElem?_eq_getElem hj.2)
   refine⟨⟨vs,ws,x3,x4,k1,k3,e3,e4⟩,λ q H'' ⟨Tt,y1,y2,eq,hT,eH,hy⟩=>?_⟩
   obtain⟨f1,f2⟩:=hy vs ws k1 k3
   rw[e3]at f1;rw[e4]at f2
   cases f1;cases f2
   subst eq eH
   exact⟨sr'.upNew hT,sr'.new hT,vr_tup (SqT.of upd_same) (VRs.up (sr'.upNew hT) (.cons v3 (.one v4)))⟩
  ·rw[<-hl1,<-hl2]
   simp only[zipA,List.length_map,List.length_zip]
   omega
end
end Mm
namespace Ro
open PySem L2 Mm
def k_LONGEST_NAME:AV:=.int 8
def k_PLACES:AV:=.int 9
noncomputable def b_is_less:Ms:=
 (sRet (mBin opLt (mBin opMul (mBin opIx (mv 0) (mc (.int 0))) (mBin opIx (mv 1) (mc (.int 1)))) (mBin opMul (mBin opIx (mv 1) (mc (.int 0))) (mBin opIx (mv 0) (mc (.int 1))))))
noncomputable def f_is_less:List AV->S->R AV:=fnR 2 b_is_less
noncomputable def b_is_number:Ms:=
 (sRet (mAnd (mUn (opIsi "int") (mv 0)) (mUn opNot (mUn (opIsi "bool") (mv 0)))))
noncomputable def f_is_number:List AV->S->R AV:=fnR 1 b_is_number
noncomputable def b_is_tuple_of:Ms:=
 (sRet (mAnd (mUn (opIsi "tuple") (mv 0)) (mBin opEq (mOp opLen (pCons (mv 0) pNil)) (mv 1))))
noncomputable def f_is_tuple_of:List AV->S->R AV:=fnR 2 b_is_tuple_of
noncomputable def b_is_name:Ms:=
 (sSeq (sIf (cOr (cNot (cT (mUn (opIsi "str") (mv 0)))) (cNot (cB (mChain opLe opLe (mc (.int 1)) (mOp opLen (pCons (mv 0) pNil)) (mc k_LONGEST_NAME))))) (sRet (mc (.bl false))) sSkip)
 (sRet (gOp qAll (lComp [("sign",none)] (srcS (mv 0)) (gN 0) cYes (mChain opLeS opLeS (mc (.str "a")) (mv 0) (mc (.str "z")))))))
noncomputable def f_is_name:List AV->S->R AV:=fnR 1 b_is_name
noncomputable def b_is_fraction:Ms:=
 (sSeq (sIf (cOr (cNot (cT (mCall 2 f_is_tuple_of (pCons (mv 0) (pCons (mc (.int 2)) pNil))))) (cNot (cT (gOp qAll (lComp [("number",none)] (srcV' (mv 0)) (gN 0) cYes (mCall 1 f_is_number (pCons (mv 0) pNil))))))) (sRet (mc (.bl false))) sSkip)
 (sSeq (sAsg (mv 0) (gT 2 (gCons' (gN 1) (gCons' (gN 2) gNil'))))
 (sRet (mAnd (mBin opGe (mv 2) (mc (.int 1))) (mBin opEq (mCall 2 f_greatest_divisor (pCons (mv 1) (pCons (mv 2) pNil))) (mc (.int 1)))))))
noncomputable def f_is_fraction:List AV->S->R AV:=fnR 3 b_is_fraction
noncomputable def b_is_statement:Ms:=
 (sSeq (sIf (cNot (cT (mCall 2 f_is_tuple_of (pCons (mv 0) (pCons (mc k_PLACES) pNil))))) (sRet (mc (.bl false))) sSkip)
 (sSeq (sAsg (mv 0) (gT 9 (gCons' (gN 1) (gCons' (gN 2) (gCons' (gN 3) (gCons' (gN 4) (gCons' (gN 5) (gCons' (gN 6) (gCons' (gN 7) (gCons' (gN 8) (gCons' (gN 9) gNil')))))))))))
 (sSeq (sIf (cOr (cNot (cT (mCall 1 f_is_name (pCons (mv 1) pNil)))) (cNot (cT (gOp qAll (lComp [("coins",none)] (srcV' (mTup (pCons (mv 2) (pCons (mv 3) (pCons (mv 6) (pCons (mv 7) pNil)))))) (gN 0) cYes (mCall 1 f_is_fraction (pCons (mv 0) pNil))))))) (sRet (mc (.bl false))) sSkip)
 (sRet (gOp qAll (lComp [("coins",none)] (srcV' (mTup (pCons (mv 4) (pCons (mv 5) (pCons (mv 8) (pCons (mv 9) pNil)))))) (gN 0) cYes (mAnd (mCall 1 f_is_number (pCons (mv 0) pNil)) (mBin opGe (mv 0) (mc (.int 0))))))))))
noncomputable def f_is_statement:List AV->S->R AV:=fnR 10 b_is_statement
noncomputable def b_is_statements:Ms:=
 (sSeq (sIf (cOr (cNot (cT (mUn opIsLT (mv 0)))) (cNot (cT (gOp qAll (lComp [("row",none)] (srcV' (mv 0)) (gN 0) cYes (mCall 1 f_is_statement (pCons (mv 0) pNil))))))) (sRet (mc (.bl false))) sSkip)
 (sRet (gOp qAll (lComp [("row",none),("later",none)] (srcZM (mv 0) (mSl (mv 0) (oS (mc (.int 1))) oN)) (gT 2 (gCons' (gN 0) (gCons' (gN 1) gNil'))) cYes (mBin opLt (mBin opIx (mv 0) (mc (.int 0))) (mBin opIx (mv 1) (mc (.int 0))))))))
noncomputable def f_is_statements:List AV->S->R AV:=fnR 1 b_is_statements
noncomputable def b_stands_behind:Ms:=
 (sSeq (sPar 3 4 (pCons (mBin opIx (mv 0) (mc (.int 5))) (pCons (mBin opIx (mv 0) (mc (.int 6))) pNil)))
 (sSeq (sAsg (mv 1) (gT 9 (gCons' (gN 5) (gCons' (gN 6) (gCons' (gN 7) (gCons' (gN 8) (gCons' (gN 9) (gCons' (gN 10) (gCons' (gN 11) (gCons' (gN 12) (gCons' (gN 13) gNil')))))))))))
 (sSeq (sSet 2 (mCall 2 f_taken_from (pCons (mTup (pCons (mBin opAdd (mv 8) (mv 9)) (pCons (mc (.int 1)) pNil))) (pCons (gcE (mCall 1 f_sum_of (pCons (mNew (lLst (pCons (mv 3) (pCons (mv 4) (pCons (mv 6) pNil))))) pNil))) pNil))))
 (sSeq (sIf (cB (mBin opNe (gcE (mCall 1 f_sum_of (pCons (mNew (lLst (pCons (mv 10) (pCons (mv 11) pNil)))) pNil))) (mv 2))) (sRet (mc (.bl false))) sSkip)
 (sSeq (sIf (cOr (cT (mCall 2 f_is_less (pCons (mv 7) (pCons (mc k_NOTHING) pNil)))) (cT (mCall 2 f_is_less (pCons (mv 4) (pCons (mv 7) pNil))))) (sRet (mc (.bl false))) sSkip)
 (sSeq (sIf (cOr (cT (mCall 2 f_is_less (pCons (mv 11) (pCons (mc k_NOTHING) pNil)))) (cNot (cT (mCall 2 f_is_less (pCons (mv 10) (pCons (mc k_ONE) pNil)))))) (sRet (mc (.bl false))) sSkip)
 (sRet (mOr (mBin opEq (mv 9) (mc (.int 0))) (mChain opEq opEq (mv 12) (mv 13) (mc (.int 0)))))))))))
noncomputable def f_stands_behind:List AV->S->R AV:=fnR 14 b_stands_behind
noncomputable def b_shows_statements:Ms:=
 (sSeq (sIf (cOr (cNot (cT (gcE (mCall 1 f_is_statements (pCons (mv 0) pNil))))) (cNot (cT (gcE (mCall 1 f_is_statements (pCons (mv 1) pNil)))))) (sRet (mc (.bl false))) sSkip)
 (sSeq (sIf (gcB (cB (mBin opNe (mNew (lComp [("row",none)] (srcV' (mv 0)) (gN 0) cYes (mBin opIx (mv 0) (mc (.int 0))))) (mNew (lComp [("row",none)] (srcV' (mv 1)) (gN 0) cYes (mBin opIx (mv 0) (mc (.int 0)))))))) (sRet (mc (.bl false))) sSkip)
 (sRet (gOp qAll (lComp [("row",none),("later",none)] (srcZM (mv 0) (mv 1)) (gT 2 (gCons' (gN 0) (gCons' (gN 1) gNil'))) cYes (mCall 2 f_stands_behind (pCons (mv 0) (pCons (mv 1) pNil))))))))
noncomputable def f_shows_statements:List AV->S->R AV:=fnR 2 b_shows_statements
noncomputable def b__law_is_number:Ms:=
 (sRet (mAnd (mUn (opIsi "int") (mv 0)) (mUn opNot (mUn (opIsi "bool") (mv 0)))))
noncomputable def f__law_is_number:List AV->S->R AV:=fnR 1 b__law_is_number
noncomputable def b__law_is_fraction:Ms:=
 (sSeq (sIf (cOr (cNot (cT (mUn (opIsi "tuple") (mv 0)))) (cOr (cB (mBin opNe (mOp opLen (pCons (mv 0) pNil)) (mc (.int 2)))) (cNot (cT (gOp qAll (lComp [("_law_part",none)] (srcV' (mv 0)) (gN 0) cYes (mCall 1 f__law_is_number (pCons (mv 0) pNil)))))))) (sRet (mc (.bl false))) sSkip)
 (sRet (mAnd (mBin opGt (mBin opIx (mv 0) (mc (.int 1))) (mc (.int 0))) (mBin opEq (mCall 2 f__law_lowest (pCons (mBin opIx (mv 0) (mc (.int 0))) (pCons (mBin opIx (mv 0) (mc (.int 1))) pNil))) (mv 0)))))
noncomputable def f__law_is_fraction:List AV->S->R AV:=fnR 1 b__law_is_fraction
noncomputable def b__law_is_row:Ms:=
 (sSeq (sIf (cOr (cNot (cT (mUn (opIsi "tuple") (mv 0)))) (cOr (cB (mBin opNe (mOp opLen (pCons (mv 0) pNil)) (mc (.int 9)))) (cNot (cT (mUn (opIsi "str") (mBin opIx (mv 0) (mc (.int 0)))))))) (sRet (mc (.bl false))) sSkip)
 (sSeq (sSet 1 (mc (.str "abcdefghijklmnopqrstuvwxyz")))
 (sSeq (sIf (cOr (cNot (cB (mChain opLe opLe (mc (.int 1)) (mOp opLen (pCons (mBin opIx (mv 0) (mc (.int 0))) pNil)) (mc (.int 8))))) (gcB (cB (mBin opNe (mNew (lComp [("_law_sign",none),("_law_small",some 1)] (srcS (mBin opIx (mv 0) (mc (.int 0)))) (gN 0) (cB (mBin opNinS (mv 0) (mv 1))) (mv 0))) (mNew (lLst pNil)))))) (sRet (mc (.bl false))) sSkip)
 (sSeq (sIf (cNot (cT (gOp qAll (lComp [("_law_k",none),("_law_thing",some 0)] (srcV' (mTup (pCons (mc (.int 1)) (pCons (mc (.int 2)) (pCons (mc (.int 5)) (pCons (mc (.int 6)) pNil)))))) (gN 0) cYes (mCall 1 f__law_is_fraction (pCons (mBin opIx (mv 1) (mv 0)) pNil)))))) (sRet (mc (.bl false))) sSkip)
 (sRet (gOp qAll (lComp [("_law_k",none),("_law_thing",some 0)] (srcV' (mTup (pCons (mc (.int 3)) (pCons (mc (.int 4)) (pCons (mc (.int 7)) (pCons (mc (.int 8)) pNil)))))) (gN 0) cYes (mAnd (mCall 1 f__law_is_number (pCons (mBin opIx (mv 1) (mv 0)) pNil)) (mBin opGe (mBin opIx (mv 1) (mv 0)) (mc (.int 0)))))))))))
noncomputable def f__law_is_row:List AV->S->R AV:=fnR 2 b__law_is_row
noncomputable def b__law_goes_on:Ms:=
 (sSeq (sSet 2 (gcE (mCall 1 f__law_sum (pCons (mNew (lLst (pCons (mBin opIx (mv 0) (mc (.int 5))) (pCons (mBin opIx (mv 0) (mc (.int 6))) (pCons (mBin opIx (mv 1) (mc (.int 1))) (pCons (mTup (pCons (mBin opSub (mUn opNeg (mBin opIx (mv 1) (mc (.int 3)))) (mBin opIx (mv 1) (mc (.int 4)))) (pCons (mc (.int 1)) pNil))) pNil)))))) pNil))))
 (sSeq (sIf (cOr (cB (mBin opNe (gcE (mCall 1 f__law_sum (pCons (mNew (lLst (pCons (mBin opIx (mv 1) (mc (.int 5))) (pCons (mBin opIx (mv 1) (mc (.int 6))) pNil)))) pNil))) (mv 2))) (cOr (cB (mBin opLt (mBin opIx (mBin opIx (mv 1) (mc (.int 2))) (mc (.int 0))) (mc (.int 0)))) (cB (mBin opLt (mBin opIx (mBin opIx (mv 1) (mc (.int 6))) (mc (.int 0))) (mc (.int 0)))))) (sRet (mc (.bl false))) sSkip)
 (sSeq (sIf (cOr (cB (mBin opGt (mBin opMul (mBin opIx (mBin opIx (mv 1) (mc (.int 2))) (mc (.int 0))) (mBin opIx (mBin opIx (mv 0) (mc (.int 6))) (mc (.int 1)))) (mBin opMul (mBin opIx (mBin opIx (mv 0) (mc (.int 6))) (mc (.int 0))) (mBin opIx (mBin opIx (mv 1) (mc (.int 2))) (mc (.int 1)))))) (cB (mBin opGe (mBin opIx (mBin opIx (mv 1) (mc (.int 5))) (mc (.int 0))) (mBin opIx (mBin opIx (mv 1) (mc (.int 5))) (mc (.int 1)))))) (sRet (mc (.bl false))) sSkip)
 (sRet (mOr (mBin opEq (mBin opIx (mv 1) (mc (.int 4))) (mc (.int 0))) (mBin opEq (mBin opAdd (mBin opIx (mv 1) (mc (.int 7))) (mBin opIx (mv 1) (mc (.int 8)))) (mc (.int 0))))))))
noncomputable def f__law_goes_on:List AV->S->R AV:=fnR 3 b__law_goes_on
noncomputable def b__law_shown:Ms:=
 (sSeq (sFor (srcV' (mTup (pCons (mv 0) (pCons (mv 1) pNil)))) (gN 2) (sSeq (sIf (cOr (cNot (cT (mUn opIsLT (mv 2)))) (cNot (cT (gOp qAll (lComp [("_law_row",none)] (srcV' (mv 2)) (gN 0) cYes (mCall 1 f__law_is_row (pCons (mv 0) pNil))))))) (sRet (mc (.bl false))) sSkip)
 (sSeq (sSet 3 (mNew (lComp [("_law_row",none)] (srcV' (mv 2)) (gN 0) cYes (mBin opIx (mv 0) (mc (.int 0))))))
 (sIf (gcB (cB (mBin opNe (mv 3) (mNew (gSetSV (mv 3)))))) (sRet (mc (.bl false))) sSkip))))
 (sSeq (sIf (gcB (cB (mBin opNe (mNew (lComp [("_law_row",none)] (srcV' (mv 0)) (gN 0) cYes (mBin opIx (mv 0) (mc (.int 0))))) (mNew (lComp [("_law_row",none)] (srcV' (mv 1)) (gN 0) cYes (mBin opIx (mv 0) (mc (.int 0)))))))) (sRet (mc (.bl false))) sSkip)
 (sRet (gOp qAll (lComp [("_law_first",none),("_law_second",none)] (srcZM (mv 0) (mv 1)) (gT 2 (gCons' (gN 0) (gCons' (gN 1) gNil'))) cYes (mCall 2 f__law_goes_on (pCons (mv 0) (pCons (mv 1) pNil))))))))
noncomputable def f__law_shown:List AV->S->R AV:=fnR 4 b__law_shown
noncomputable def b__law_taken_right:Ms:=
 (sSeq (sSet 2 (mTup (pCons (mIf (cT (mUn (opIsi "list") (mv 0))) (mNew (gOp qList (lIts (mv 0)))) (mv 0)) (pCons (mIf (cT (mUn (opIsi "list") (mv 1))) (mNew (gOp qList (lIts (mv 1)))) (mv 1)) pNil))))
 (sSeq (sSet 3 (gcE (mCall 2 f_shows_statements (pCons (mv 0) (pCons (mv 1) pNil)))))
 (sRet (mAnd (mUn (opIsi "bool") (mv 3)) (mAnd (mBin opEq (mv 3) (gcE (mCall 2 f__law_shown (pCons (mv 0) (pCons (mv 1) pNil))))) (mBin opEqC (mTup (pCons (mv 0) (pCons (mv 1) pNil))) (mv 2)))))))
noncomputable def f__law_taken_right:List AV->S->R AV:=fnR 4 b__law_taken_right
noncomputable def b__law_fraction:Ms:=
 (sSeq (sSet 2 (mBin opAdd (mc (.int 1)) (mCall 2 f__law_take (pCons (mv 0) (pCons (gcM (mBin opIx (mNew (lLst (pCons (mc (.int 1)) (pCons (mc (.int 12)) (pCons (mBin opPow (mc (.int 10)) (mc (.int 6))) pNil))))) (mCall 2 f__law_take (pCons (mv 0) (pCons (mc (.int 3)) pNil))))) pNil)))))
 (sRet (mCall 2 f__law_lowest (pCons (mCall 2 f__law_take (pCons (mv 0) (pCons (mBin opMul (mv 1) (mv 2)) pNil))) (pCons (mv 2) pNil)))))
noncomputable def f__law_fraction:List AV->S->R AV:=fnR 3 b__law_fraction
noncomputable def b__law_made:Ms:=
 (sSeq (sPar 11 12 (pCons (mCall 2 f__law_fraction (pCons (mv 0) (pCons (mc (.int 2)) pNil))) (pCons (mCall 2 f__law_fraction (pCons (mv 0) (pCons (mc (.int 50)) pNil))) pNil)))
 (sSeq (sIf (cB (mBin opEq (mCall 2 f__law_take (pCons (mv 0) (pCons (mc (.int 4)) pNil))) (mc (.int 0)))) (sSet 11 (mTup (pCons (mUn opNeg (mBin opIx (mv 11) (mc (.int 0)))) (pCons (mBin opIx (mv 11) (mc (.int 1))) pNil)))) sSkip)
 (sSeq (sSet 2 (mTup (pCons (mv 1) (pCons (mCall 2 f__law_fraction (pCons (mv 0) (pCons (mc (.int 9)) pNil))) (pCons (mTup (pCons (mc (.int 0)) (pCons (mc (.int 1)) pNil))) (pCons (mCall 2 f__law_take (pCons (mv 0) (pCons (mc (.int 9)) pNil))) (pCons (mc (.int 0)) (pCons (mv 11) (pCons (mv 12) (pCons (mCall 2 f__law_take (pCons (mv 0) (pCons (mc (.int 9)) pNil))) (pCons (mc (.int 3)) pNil)))))))))))
 (sSeq (sSet 3 (gcM (mBin opIx (mNew (lLst (pCons (mv 12) (pCons (mTup (pCons (mc (.int 0)) (pCons (mc (.int 1)) pNil))) (pCons (mCall 2 f__law_lowest (pCons (mBin opIx (mv 12) (mc (.int 0))) (pCons (mBin opMul (mc (.int 2)) (mBin opIx (mv 12) (mc (.int 1)))) pNil))) pNil))))) (mCall 2 f__law_take (pCons (mv 0) (pCons (mc (.int 3)) pNil))))))
 (sSeq (sSet 4 (mCall 2 f__law_fraction (pCons (mv 0) (pCons (mc (.int 40)) pNil))))
 (sSeq (sSet 5 (gcM (mCall 1 f__law_sum (pCons (mNew (lLst (pCons (mCall 2 f__law_fraction (pCons (mv 0) (pCons (mc (.int 99)) pNil))) (pCons (mTup (pCons (mUn opNeg (mCall 2 f__law_take (pCons (mv 0) (pCons (mc (.int 30)) pNil)))) (pCons (mc (.int 1)) pNil))) pNil)))) pNil))))
 (sSeq (sSet 6 (gcE (mCall 1 f__law_sum (pCons (mNew (lLst (pCons (mv 11) (pCons (mv 12) (pCons (mv 5) (pCons (mTup (pCons (mUn opNeg (mBin opIx (mv 4) (mc (.int 0)))) (pCons (mBin opIx (mv 4) (mc (.int 1))) pNil))) pNil)))))) pNil))))
 (sSeq (sSet 7 (mOp opMax (pCons (mc (.int 0)) (pCons (mBin opFdiv (mBin opIx (mv 6) (mc (.int 0))) (mBin opIx (mv 6) (mc (.int 1)))) pNil))))
 (sSeq (sSet 8 (gcM (mBin opIx (mNew (lLst (pCons (mv 7) (pCons (mc (.int 0)) (pCons (mCall 2 f__law_take (pCons (mv 0) (pCons (mBin opAdd (mv 7) (mc (.int 1))) pNil))) pNil))))) (mCall 2 f__law_take (pCons (mv 0) (pCons (mc (.int 3)) pNil))))))
 (sSeq (sSet 9 (gcE (mCall 1 f__law_sum (pCons (mNew (lLst (pCons (mv 6) (pCons (mTup (pCons (mUn opNeg (mv 7)) (pCons (mc (.int 1)) pNil))) pNil)))) pNil))))
 (sSeq (sSet 10 (gcM (mBin opIx (mNew (lLst (pCons (mc (.int 0)) (pCons (mCall 2 f__law_take (pCons (mv 0) (pCons (mc (.int 9)) pNil))) pNil)))) (mOp opInt (pCons (mBin opEq (mv 8) (mv 7)) pNil)))))
 (sRet (mTup (pCons (mv 2) (pCons (mTup (pCons (mv 1) (pCons (mv 5) (pCons (mv 3) (pCons (mv 8) (pCons (mBin opSub (mv 7) (mv 8)) (pCons (mv 9) (pCons (mv 4) (pCons (mv 10) (pCons (mv 10) pNil)))))))))) pNil)))))))))))))))
noncomputable def f__law_made:List AV->S->R AV:=fnR 13 b__law_made
noncomputable def b__law_odd:Ms:=
 (sSeq (sSet 2 (mNew (gOp qList (lIts (mv 1)))))
 (sSeq (sSet 3 (mCall 2 f__law_take (pCons (mv 0) (pCons (mc (.int 9)) pNil))))
 (sSeq (sAsg (mBin opIx (mv 1) (mc (.int 1))) (gT 2 (gCons' (gN 5) (gCons' (gN 6) gNil'))))
 (sSeq (sSet 4 (mNew (lLst (pCons (mc (.bl true)) (pCons (mc (.bl false)) (pCons (mc .non) (pCons (mc (.str "1")) (pCons (mTup (pCons (mv 5) pNil)) (pCons (mNew (lLst (pCons (mv 5) (pCons (mv 6) pNil)))) (pCons (mTup (pCons (mv 5) (pCons (mc (.int 0)) pNil))) pNil))))))))))
 (sSeq (sSet 4 (mBin opAdd (mv 4) (mNew (lLst (pCons (mTup (pCons (mBin opMul (mc (.int 2)) (mv 5)) (pCons (mBin opMul (mc (.int 2)) (mv 6)) pNil))) (pCons (mTup (pCons (mUn opNeg (mv 5)) (pCons (mUn opNeg (mv 6)) pNil))) (pCons (mTup (pCons (mv 5) (pCons (mv 6) (pCons (mc (.int 1)) pNil)))) (pCons (mTup (pCons (mBin opFdiv (mv 5) (mv 6)) (pCons (mc (.bl true)) pNil))) pNil))))))))
 (sSeq (sSet 4 (mBin opAdd (mv 4) (mNew (lLst (pCons (mTup (pCons (mc (.str "1")) (pCons (mc (.int 2)) pNil))) (pCons (mTup (pCons (mc .non) (pCons (mc (.int 2)) pNil))) (pCons (mTup (pCons (mv 5) (pCons (mc (.str "2")) pNil))) (pCons (mTup (pCons (mv 5) (pCons (mc .non) pNil))) (pCons (mTup (pCons (mNew (lLst (pCons (mv 5) pNil))) (pCons (mc (.int 2)) pNil))) (pCons (mTup (pCons (mTup (pCons (mv 5) pNil)) (pCons (mc (.int 2)) pNil))) pNil))))))))))
 (sSeq (sIf (cB (mBin opEq (mv 3) (mc (.int 0)))) (sAsg (mBin opIx (mNew (lLst (pCons (mc (.str "")) (pCons (mc (.str "abcdefghi")) (pCons (mc (.str "A")) (pCons (mc (.str "a1")) (pCons (mc .non) (pCons (mc (.int 7)) (pCons (mTup (pCons (mc (.str "a")) pNil)) (pCons (mc (.str "a b")) pNil)))))))))) (mCall 2 f__law_take (pCons (mv 0) (pCons (mc (.int 8)) pNil)))) (gSubL (mv 2) (mc (.int 0)))) (sIf (cB (mBin opLt (mv 3) (mc (.int 8)))) (sAsg (mBin opIx (mv 4) (mCall 2 f__law_take (pCons (mv 0) (pCons (mOp opLen (pCons (mv 4) pNil)) pNil)))) (gSubL (mv 2) (mBin opAdd (mc (.int 1)) (mCall 2 f__law_take (pCons (mv 0) (pCons (mc (.int 8)) pNil)))))) (sRet (mBin opIx (mNew (lLst (pCons (mNew (gOp qList (lIts (mv 1)))) (pCons (mSl (mv 1) oN (oS (mc (.int 8)))) (pCons (mBin opAdd (mv 1) (mTup (pCons (mc (.int 0)) pNil))) (pCons (mc .non) (pCons (mTup pNil) (pCons (mBin opIx (mv 1) (mc (.int 0))) (pCons mD0 (pCons (mDisp [((mBin opIx (mv 1) (mc (.int 0))),(mc (.int 1)))]) pNil)))))))))) (mCall 2 f__law_take (pCons (mv 0) (pCons (mc (.int 8)) pNil)))))))
 (sRet (gOp qTuple (lIts (mv 2)))))))))))
noncomputable def f__law_odd:List AV->S->R AV:=fnR 7 b__law_odd
noncomputable def b__law_any_name:Ms:=
 (sSeq (sSet 1 (mc (.str "")))
 (sSeq (sFor (srcR (pCons (mBin opAdd (mc (.int 1)) (mCall 2 f__law_take (pCons (mv 0) (pCons (mc (.int 8)) pNil)))) pNil)) (gN 2) (sSet 1 (mBin opAdd (mv 1) (mBin opIx (mc (.str "abcdefghijklmnopqrstuvwxyz")) (mCall 2 f__law_take (pCons (mv 0) (pCons (mc (.int 26)) pNil)))))))
 (sSeq (sSet 3 (mc (.str " !\"#$&'()*+,-./0123456789:;<=>?@ABCDEFGHIJKLMNOPQRSTUVWXYZ[\\]^_`abcdefghijklmnopqrstuvwxyz{|}~")))
 (sSeq (sPar 5 6 (pCons (mCall 2 f__law_take (pCons (mv 0) (pCons (mOp opLen (pCons (mv 1) pNil)) pNil))) (pCons (mCall 2 f__law_take (pCons (mv 0) (pCons (mc (.int 3)) pNil))) pNil)))
 (sSeq (sSet 4 (mBin opIx (mv 3) (mCall 2 f__law_take (pCons (mv 0) (pCons (mOp opLen (pCons (mv 3) pNil)) pNil)))))
 (sRet (gcE (mBin opIx (mNew (lLst (pCons (mv 1) (pCons (mBin opAdd (mBin opAdd (mSlS (mv 1) oN (oS (mv 5))) (mv 4)) (mSlS (mv 1) (oS (mv 5)) oN)) (pCons (mBin opAdd (mBin opAdd (mSlS (mv 1) oN (oS (mv 5))) (mv 4)) (mSlS (mv 1) (oS (mBin opAdd (mv 5) (mc (.int 1)))) oN)) pNil))))) (mv 6)))))))))
noncomputable def f__law_any_name:List AV->S->R AV:=fnR 7 b__law_any_name
noncomputable def b_law:Ms:=
 (sSeq (sSet 1 (mCall 1 f__law_begin (pCons (mv 0) pNil)))
 (sSeq (sSet 2 (mNew (gSortN (lTake (mCall 2 f__law_names (pCons (mv 1) (pCons (mBin opAdd (mc (.int 1)) (mCall 2 f__law_take (pCons (mv 1) (pCons (mc (.int 4)) pNil)))) pNil)))))))
 (sSeq (sSet 3 (mNew (lComp [("_law_name",none),("_law_state",some 1)] (srcV' (mv 2)) (gN 0) cYes (mCall 2 f__law_made (pCons (mv 1) (pCons (mv 0) pNil))))))
 (sSeq (sPar 7 8 (pCons (mNew (lComp [("_law_pair",none)] (srcV' (mv 3)) (gN 0) cYes (mBin opIx (mv 0) (mc (.int 0))))) (pCons (mNew (lComp [("_law_pair",none)] (srcV' (mv 3)) (gN 0) cYes (mBin opIx (mv 0) (mc (.int 1))))) pNil)))
 (sSeq (sIf (cOr (cB (mBin opIsntN (gcE (mCall 2 f_shows_statements (pCons (mv 7) (pCons (mv 8) pNil)))) (mc (.bl true)))) (cB (mBin opIsntN (gcE (mCall 2 f_shows_statements (pCons (gOp qTuple (lIts (mv 7))) (pCons (mv 8) pNil)))) (mc (.bl true))))) (sRet (mc (.bl false))) sSkip)
 (sSeq (sFor (srcR (pCons (mc (.int 10)) pNil)) (gN 4) (sSeq (sPar 12 13 (pCons (mNew (gOp qList (lIts (mv 7)))) (pCons (mNew (gOp qList (lIts (mv 8)))) pNil)))
 (sSeq (sSet 9 (gcM (mBin opIx (mNew (lLst (pCons (mv 12) (pCons (mv 13) pNil)))) (mCall 2 f__law_take (pCons (mv 1) (pCons (mc (.int 2)) pNil))))))
 (sSeq (sSet 10 (mCall 2 f__law_take (pCons (mv 1) (pCons (mOp opLen (pCons (mv 9) pNil)) pNil))))
 (sSeq (sAsg (mCall 2 f__law_odd (pCons (mv 1) (pCons (mBin opIx (mv 9) (mv 10)) pNil))) (gSubL (mv 9) (mv 10)))
 (sIf (cNot (cT (gcE (mCall 2 f__law_taken_right (pCons (mv 12) (pCons (mv 13) pNil)))))) (sRet (mc (.bl false))) sSkip))))))
 (sSeq (sFor (srcR (pCons (mc (.int 6)) pNil)) (gN 4) (sSeq (sSet 11 (mCall 1 f__law_any_name (pCons (mv 1) pNil)))
 (sIf (cNot (cT (gcE (mCall 2 f__law_taken_right (pCons (mNew (lLst (pCons (mBin opAdd (mTup (pCons (mv 11) pNil)) (mSl (mBin opIx (mv 7) (mc (.int 0))) (oS (mc (.int 1))) oN)) pNil))) (pCons (mNew (lLst (pCons (mBin opAdd (mTup (pCons (mv 11) pNil)) (mSl (mBin opIx (mv 8) (mc (.int 0))) (oS (mc (.int 1))) oN)) pNil))) pNil)))))) (sRet (mc (.bl false))) sSkip)))
 (sSeq (sSet 5 (mNew (lLst (pCons (mc .non) (pCons (mc (.bl true)) (pCons (mc (.int 0)) (pCons (mc (.str "")) (pCons (mc (.str "a")) (pCons mD0 (pCons (mTup pNil) (pCons (mNew (lLst pNil)) (pCons (mNew (lLst (pCons (mc .non) pNil))) (pCons (mNew (lLst (pCons (mTup pNil) pNil))) (pCons (mNew (lLst (pCons (mNew (lLst pNil)) pNil))) (pCons (mTup (pCons (mTup pNil) pNil)) (pCons (mBin opIx (mv 7) (mc (.int 0))) (pCons (mDisp [((mc (.str "a")),(mv 7))]) pNil)))))))))))))))))
 (sSeq (sFor (srcV' (mv 5)) (gN 6) (sIf (cOr (cNot (cT (gcE (mCall 2 f__law_taken_right (pCons (mv 6) (pCons (mv 8) pNil)))))) (cNot (cT (gcE (mCall 2 f__law_taken_right (pCons (mv 7) (pCons (mv 6) pNil))))))) (sRet (mc (.bl false))) sSkip))
 (sRet (mAnd (mBin opIsB (gcE (mCall 2 f_shows_statements (pCons (mNew (lLst pNil)) (pCons (mNew (lLst pNil)) pNil)))) (mc (.bl true))) (mBin opIsB (gcE (mCall 2 f_shows_statements (pCons (mTup pNil) (pCons (mNew (lLst pNil)) pNil)))) (mc (.bl true))))))))))))))
noncomputable def f_law:List AV->S->R AV:=fnR 14 b_law
def top (i:Nat):Stmt:=PySem.Challenge.pw_royaltree_k38_things_that_are_no_stateme.main.body.getD i (.Pass ⟨0,0,0,0⟩)
set_option hygiene false in
local macro_rules | `(tactic| walk_at "q") => `(tactic| first
 | ((with_reducible show PE _ _ (tE _ _ (mv _)));exact me_v (pv _))
 | ((with_reducible show PA _ (_ :: _) _); refine pa_cons' ?_ ?_ <;> walk_at "q")
 | ((with_reducible exact pa_nil'))
 | ((with_reducible exact me_int))
 | ((with_reducible exact me_str))
 | ((with_reducible exact me_non))
 | ((with_reducible exact me_bl))
 | ((with_reducible show(_:Nat)<=_);first|decide|omega)
 | ((with_reducible show PE _ _ (tE _ _ (mc _)));exact me_kst (by with_reducible assumption:Kst T mg _ _))
 | ((with_reducible show PE _ _ (tE _ _ (mBin opAdd _ _))); refine me_bin (oAdd rfl) ?_ ?_ <;> walk_at "q")
 | ((with_reducible show PE _ _ (tE _ _ (mBin opSub _ _))); refine me_bin (oSub) ?_ ?_ <;> walk_at "q")
 | ((with_reducible show PE _ _ (tE _ _ (mBin opMul _ _))); refine me_bin (oMul) ?_ ?_ <;> walk_at "q")
 | ((with_reducible show PE _ _ (tE _ _ (mBin opFdiv _ _))); refine me_bin (oFdiv) ?_ ?_ <;> walk_at "q")
 | ((with_reducible show PE _ _ (tE _ _ (mBin opMod _ _))); refine me_bin (oMod) ?_ ?_ <;> walk_at "q")
 | ((with_reducible show PE _ _ (tE _ _ (mBin opPow _ _))); refine me_bin (oPow) ?_ ?_ <;> walk_at "q")
 | ((with_reducible show PE _ _ (tE _ _ (mCall _ _ _))); refine me_F (by with_reducible assumption : Fk P w T mg base _ _ _ _) (hr.mono ?_) ?_ <;> walk_at "q")
 | ((with_reducible show PE _ _ (tE _ _ (mBin opIx _ _))); refine me_ix (oIx rfl) ?_ ?_ <;> walk_at "q")
 | ((with_reducible show PE _ _ (tE _ _ (mBin opDget _ _))); refine me_dget hu1 ?_ ?_ <;> walk_at "q")
 | ((with_reducible show PE _ _ (tE _ _ (mTup _))); refine me_tup ?_ <;> walk_at "q")
 | ((with_reducible show PE _ _ (tE _ _ (mNew _))); refine me_new ?_ <;> walk_at "q")
 | ((with_reducible show PE _ _ (tL _ _ (lLst _))); refine ml_lst ?_ <;> walk_at "q")
 | ((with_reducible show PE _ _ (tE _ _ (mBin opEq _ _))); refine me_cmp (oEq rfl hu) ?_ ?_ <;> walk_at "q")
 | ((with_reducible show PE _ _ (tE _ _ (mBin opNe _ _))); refine me_cmp (oNe rfl hu) ?_ ?_ <;> walk_at "q")
 | ((with_reducible show PE _ _ (tE _ _ (mBin opLt _ _))); refine me_cmp (oLt) ?_ ?_ <;> walk_at "q")
 | ((with_reducible show PE _ _ (tE _ _ (mBin opLe _ _))); refine me_cmp (oLe) ?_ ?_ <;> walk_at "q")
 | ((with_reducible show PE _ _ (tE _ _ (mBin opGt _ _))); refine me_cmp (oGt) ?_ ?_ <;> walk_at "q")
 | ((with_reducible show PE _ _ (tE _ _ (mBin opGe _ _))); refine me_cmp (oGe) ?_ ?_ <;> walk_at "q")
 | ((with_reducible show PE _ _ (tE _ _ (mBin opIsntN _ _))); refine me_cmp (oIsntN) ?_ ?_ <;> walk_at "q")
 | ((with_reducible show PT _ _ (tC' _ _ (cB (mBin opEq _ _)))); refine pt_cmp' (oEq rfl hu) ?_ ?_ <;> walk_at "q")
 | ((with_reducible show PT _ _ (tC' _ _ (cB (mBin opNe _ _)))); refine pt_cmp' (oNe rfl hu) ?_ ?_ <;> walk_at "q")
 | ((with_reducible show PT _ _ (tC' _ _ (cB (mBin opLt _ _)))); refine pt_cmp' (oLt) ?_ ?_ <;> walk_at "q")
 | ((with_reducible show PT _ _ (tC' _ _ (cB (mBin opLe _ _)))); refine pt_cmp' (oLe) ?_ ?_ <;> walk_at "q")
 | ((with_reducible show PT _ _ (tC' _ _ (cB (mBin opGt _ _)))); refine pt_cmp' (oGt) ?_ ?_ <;> walk_at "q")
 | ((with_reducible show PT _ _ (tC' _ _ (cB (mBin opGe _ _)))); refine pt_cmp' (oGe) ?_ ?_ <;> walk_at "q")
 | ((with_reducible show PT _ _ (tC' _ _ (cB (mBin opIsntN _ _)))); refine pt_cmp' (oIsntN) ?_ ?_ <;> walk_at "q")
 | ((with_reducible show PE _ _ (tE _ _ (mChain opLe opLe _ _ _))); refine me_chain oLe oLe ?_ ?_ ?_ <;> walk_at "q")
 | ((with_reducible show PT _ _ (tC' _ _ (cB (mChain opLe opLe _ _ _)))); refine pt_chain' oLe oLe ?_ ?_ ?_ <;> walk_at "q")
 | ((with_reducible show PE _ _ (tE _ _ (mChain opLeS opLeS _ _ _))); refine me_chain oLeS oLeS ?_ ?_ ?_ <;> walk_at "q")
 | ((with_reducible show PT _ _ (tC' _ _ (cB (mChain opLeS opLeS _ _ _)))); refine pt_chain' oLeS oLeS ?_ ?_ ?_ <;> walk_at "q")
 | ((with_reducible show PE _ _ (tE _ _ (mChain opEq opEq _ _ _))); refine me_chain (oEq rfl hu) (oEq rfl hu) ?_ ?_ ?_ <;> walk_at "q")
 | ((with_reducible show PT _ _ (tC' _ _ (cB (mChain opEq opEq _ _ _)))); refine pt_chain' (oEq rfl hu) (oEq rfl hu) ?_ ?_ ?_ <;> walk_at "q")
 | ((with_reducible show PE _ _ (tE _ _ (mBin opEqC _ _))); refine me_cmp (oEqC rfl hu) ?_ ?_ <;> walk_at "q")
 | ((with_reducible show PE _ _ (tE _ _ (mBin opNinS _ _))); refine me_cmp oNinS ?_ ?_ <;> walk_at "q")
 | ((with_reducible show PT _ _ (tC' _ _ (cB (mBin opNinS _ _)))); refine pt_cmp' oNinS ?_ ?_ <;> walk_at "q")
 | ((with_reducible show PE _ _ (tE _ _ (mBin opIsB _ _))); refine me_cmp oIsB ?_ ?_ <;> walk_at "q")
 | ((with_reducible show PT _ _ (tC' _ _ (cB (mBin opIsB _ _)))); refine pt_cmp' oIsB ?_ ?_ <;> walk_at "q")
 | ((with_reducible show PE _ _ (tE _ _ (mSlS _ _ _))); refine me_slS ?_ ?_ ?_ <;> walk_at "q")
 | ((with_reducible show PE _ _ (tL _ _ (gSetSV _))); refine ml_setSV (by with_reducible assumption : mg _ = none) (by with_reducible assumption : mg _ = none) ?_ <;> walk_at "q")
 | ((with_reducible show PE _ _ (tE _ _ (mUn opIsLT _))); refine me_isLT rfl (by with_reducible assumption : mg _ = none) (by with_reducible assumption : mg _ = none) (by with_reducible assumption : mg _ = none) ?_ <;> walk_at "q")
 | ((with_reducible show PE _ _ (tL _ _ (gSortN _))); refine ml_sortN (by with_reducible assumption : mg _ = none) ?_ <;> walk_at "q")
 | ((with_reducible refine pt_gc ?_) <;> walk_at "q")
 | ((with_reducible refine pt_not' ?_) <;> walk_at "q")
 | ((with_reducible refine PW.pt (pw_or' ?_ ?_)) <;> walk_at "q")
 | ((with_reducible refine pw_or' ?_ ?_) <;> walk_at "q")
 | ((with_reducible refine pw_or1' ?_) <;> walk_at "q")
 | ((with_reducible show PT _ _ (tC' _ _ (cT _))); refine pt_t rfl ?_ <;> walk_at "q")
 | ((with_reducible refine me_not ?_) <;> walk_at "q")
 | ((with_reducible show PE _ _ (tE _ _ (mUn opNeg _))); refine me_un oNeg ?_ <;> walk_at "q")
 | ((with_reducible refine me_and ?_ ?_) <;> walk_at "q")
 | ((with_reducible refine me_or ?_ ?_) <;> walk_at "q")
 | ((with_reducible refine me_one ?_) <;> walk_at "q")
 | ((with_reducible show PE _ _ (tE _ _ (mIf _ _ _))); refine me_if ?_ ?_ ?_ <;> walk_at "q")
 | ((with_reducible exact me_d0))
 | ((with_reducible show PE _ _ (tE _ _ (mDisp _))); (with_reducible refine me_disp ?hh ?ha ?hb ?hc ?hd); (case ha => rfl); (case hb => rfl); (case hc => exact List.cons_ne_nil _ _); (case hd => decide); walk_at "q")
 | ((with_reducible refine mps_cons ?_ ?_ ?_) <;> walk_at "q")
 | ((with_reducible exact mps_nil))
 | ((with_reducible show PE _ _ (tE _ _ (mSl _ _ _))); refine me_sl rfl ?_ ?_ ?_ <;> walk_at "q")
 | ((with_reducible exact po_none'))
 | ((with_reducible refine po_some' ?_) <;> walk_at "q")
 | ((with_reducible refine me_gc ?_) <;> walk_at "q")
 | ((with_reducible refine me_gcM ?_) <;> walk_at "q")
 | ((with_reducible refine ml_take ?_) <;> walk_at "q")
 | ((with_reducible refine mq_its ?_) <;> walk_at "q")
 | ((with_reducible show PE _ _ (tL _ _ (gMet "str" opSplit _ _))); refine mg_met rfl PySem.F.plainAttrs_str PySem.F.slot_str_split PySem.F.type_str_split dSplit ?_ ?_ <;> walk_at "q")
 | ((with_reducible show PE _ _ (tE _ _ (mMet "list" opPop _ _))); refine me_met rfl PySem.F.plainAttrs_list PySem.F.slot_list_pop PySem.F.type_list_pop dPop ?_ ?_ <;> walk_at "q")
 | ((with_reducible show PE _ _ (tE _ _ (mOp opLen _))); refine me_B (cLen rfl) (by with_reducible assumption : mg _ = none) PySem.boot_len ?_ <;> walk_at "q")
 | ((with_reducible show PE _ _ (tE _ _ (mOp opAbs _))); refine me_B (cAbs) (by with_reducible assumption : mg _ = none) Ro.boot_abs ?_ <;> walk_at "q")
 | ((with_reducible show PE _ _ (tE _ _ (mOp opMax _))); refine me_B (cMax rfl) (by with_reducible assumption : mg _ = none) boot_max ?_ <;> walk_at "q")
 | ((with_reducible show PE _ _ (tE _ _ (mOp opDivmod _))); refine me_B (cDivmod) (by with_reducible assumption : mg _ = none) Ro.boot_divmod ?_ <;> walk_at "q")
 | ((with_reducible show PE _ _ (tE _ _ (mOp opInt _))); refine me_T cInt (by with_reducible assumption : mg _ = none) Ro.boot_int ?_ <;> walk_at "q")
 | ((with_reducible show PE _ _ (tE _ _ (gOp qAll _))); refine mg_BL (cAll rfl) (by with_reducible assumption : mg _ = none) Ro.boot_all ?_ <;> walk_at "q")
 | ((with_reducible show PE _ _ (tL _ _ (gOp qList _))); refine mg_T (cList rfl) (by with_reducible assumption : mg _ = none) Ro.boot_list ?_ <;> walk_at "q")
 | ((with_reducible show PE _ _ (tE _ _ (gOp qTuple _))); refine mg_T (cTuple rfl) (by with_reducible assumption : mg _ = none) Ro.boot_tuple ?_ <;> walk_at "q")
 | ((with_reducible show PE _ _ (tE _ _ (mUn (opIsi _) _))); refine me_isi rfl (by decide) (by with_reducible assumption : mg _ = none) (by with_reducible assumption : mg _ = none) (by first | exact Ro.boot_int | exact Ro.boot_bool | exact Ro.boot_list | exact Ro.boot_tuple | exact Ro.boot_str) ?_ <;> walk_at "q")
 | ((with_reducible show PI _ _ _ (tW _ _ (srcS _))); refine mi_s ?_ <;> walk_at "q")
 | ((with_reducible show PE _ _ (tL _ _ (lComp _ _ _ _ _))); refine ml_comp _ (CompScope.of rfl (by decide +kernel) (by decide +kernel) (by decide +kernel) (by repeat (first | exact trivial | refine ⟨⟨rfl, rfl, by first | exact .inl rfl | exact .inr rfl⟩, ?_⟩))) rfl ?_ (fun _ _ _ _ _ => ?_) (fun _ _ _ _ _ => ?_) (fun _ _ _ _ _ => ?_) <;> walk_at "q")
 | ((with_reducible exact pif_nil'))
 | ((with_reducible refine pif_one' ?_) <;> walk_at "q")
 | ((with_reducible show PI _ _ _ (tW _ _ (srcR (pCons _ pNil)))); refine mi_r1 (by with_reducible assumption : mg _ = none) ?_ <;> walk_at "q")
 | ((with_reducible show PI _ _ _ (tW _ _ (srcZM _ _))); refine mi_zipM rfl (by with_reducible assumption : mg _ = none) ?_ ?_ <;> walk_at "q")
 | ((with_reducible show PI _ _ _ (tW _ _ (srcV' _))); refine mi_v rfl ?_ <;> walk_at "q")
 | ((with_reducible show PG _ _ (tT _ _ (gN _)));exact mg_name (by first|exact nd|(show List.Nodup (_ :: _);decide +kernel)))
 | ((with_reducible show PG _ _ (tT _ _ (gT _ _))); refine mg_tup rfl rfl ?_ <;> walk_at "q")
 | ((with_reducible show PG _ _ (tT _ _ (gSubL _ _))); refine mg_subL ?_ ?_ <;> walk_at "q")
 | ((with_reducible show PGs _ (_ :: _) _); refine mgs_cons ?_ ?_ <;> walk_at "q")
 | ((with_reducible exact mgs_nil))
 | ((with_reducible exact on_name))
 | ((with_reducible exact on_nil))
 | ((with_reducible exact on_subL))
 | ((with_reducible refine on_cons ?_ ?_) <;> walk_at "q")
 | ((with_reducible refine on_tup ?_) <;> walk_at "q")
 | ((with_reducible show PS _ _ (tS _ _ (sSet _ (mNew (lComp _ _ _ _ _))))); refine ms_setComp _ (CompScope.of rfl (by decide +kernel) (by decide +kernel) (by decide +kernel) (by repeat (first | exact trivial | refine ⟨⟨rfl, rfl, by first | exact .inl rfl | exact .inr rfl⟩, ?_⟩))) rfl nd ?_ (fun _ _ _ _ _ => ?_) (fun _ _ _ _ _ => ?_) (fun _ _ _ _ _ => ?_) <;> walk_at "q")
 | ((with_reducible show PS _ _ (tS _ _ (sSet _ (mDisp _)))); (with_reducible refine ms_setD ?hN ?_ ?hi ?hx ?hf); (case hN => exact nd); (case hi => rfl); (case hx => exact Or.inl rfl); (case hf => exact Or.inl rfl); walk_at "q")
 | ((with_reducible show PS _ _ (tS _ _ (sSet _ (mNew (lLst _))))); (with_reducible refine ms_setL ?hN ?_ ?hi ?hx ?hf); (case hN => exact nd); (case hi => rfl); (case hx => exact Or.inl rfl); (case hf => exact Or.inl rfl); walk_at "q")
 | ((with_reducible show PS _ _ (tS _ _ (sSet _ _))); refine ms_set nd ?_ <;> walk_at "q")
 | ((with_reducible show PS _ _ (tS _ _ (sRet _))); refine ms_ret ?_ <;> walk_at "q")
 | ((with_reducible show PS _ _ (tS _ _ (sIf _ _ _))); refine ms_if ?_ ?_ ?_ <;> walk_at "q")
 | ((with_reducible show PS _ _ (tS _ _ (sFor _ _ _))); refine ms_for PassesOwn.never rfl ?_ ?_ ?_ <;> walk_at "q")
 | ((with_reducible show PS _ _ (tS _ _ (sPar _ _ _))); refine ms_par rfl nd ?_ <;> walk_at "q")
 | ((with_reducible show PS _ _ (tS _ _ (sAsg _ _))); refine ms_asg ?_ ?_ ?_ <;> walk_at "q")
 | ((with_reducible show PS _ _ (tS _ _ (sDput _ _ _))); refine ms_dput hu1 ?_ ?_ ?_ <;> walk_at "q")
 | ((with_reducible show PS _ _ (tS _ _ (sWhl _ _ _))); refine ms_whl _ PassesOwn.never ?_ ?_ <;> walk_at "q")
 | ((with_reducible show PSs _ _ (tS _ _ (sSeq _ _))); refine mss_cons ?_ ?_ <;> walk_at "q")
 | ((with_reducible show PSs _ _ (tS _ _ sSkip));exact mss_nil)
 | (refine mss_one ?_ <;> walk_at "q"))
local macro_rules | `(tactic| walk_at "b") => `(tactic| (intro _ _ _ _ _ _ us hl; first
 | (match us,hl with|[],_=>rfl)|(match us,hl with|[_],_=>rfl)|(match us,hl with|[_,_],_=>rfl)|(match us,hl with|[_,_,_],_=>rfl)|(match us,hl with|[_,_,_,_],_=>rfl)
 | (match us,hl with|[_,_,_,_,_],_=>rfl)|(match us,hl with|[_,_,_,_,_,_],_=>rfl)))
set_option hygiene false in
local macro_rules | `(tactic| walk_at "g") => `(tactic| (intro hr nd; have hu1 := hu_of hr; have hu := hu30 hr; walk_at "q"))
section
variable {P:Program}{w:World}{T:Tx}{mg:Str->Option Value}{base:Heap}
variable (z_abs:mg "abs"=none)
variable (z_all:mg "all"=none)
variable (z_bool:mg "bool"=none)
variable (z_divmod:mg "divmod"=none)
variable (z_int:mg "int"=none)
variable (z_isinstance:mg "isinstance"=none)
variable (z_len:mg "len"=none)
variable (z_list:mg "list"=none)
variable (z_max:mg "max"=none)
variable (z_range:mg "range"=none)
variable (z_set:mg "set"=none)
variable (z_sorted:mg "sorted"=none)
variable (z_str:mg "str"=none)
variable (z_tuple:mg "tuple"=none)
variable (z_zip:mg "zip"=none)
variable (q_LONGEST_NAME:Kst T mg "LONGEST_NAME" k_LONGEST_NAME)
variable (q_NOTHING:Kst T mg "NOTHING" k_NOTHING)
variable (q_ONE:Kst T mg "ONE" k_ONE)
variable (q_PLACES:Kst T mg "PLACES" k_PLACES)
variable (h_greatest_divisor:Fk P w T mg base "greatest_divisor" 2 1 f_greatest_divisor)
variable (h_plus:Fk P w T mg base "plus" 2 2 f_plus)
variable (h_sum_of:Fk P w T mg base "sum_of" 1 3 f_sum_of)
variable (h_taken_from:Fk P w T mg base "taken_from" 2 3 f_taken_from)
variable (h_is_less:Fk P w T mg base "is_less" 2 1 f_is_less)
variable (h_is_number:Fk P w T mg base "is_number" 1 1 f_is_number)
variable (h_is_tuple_of:Fk P w T mg base "is_tuple_of" 2 1 f_is_tuple_of)
variable (h_is_name:Fk P w T mg base "is_name" 1 1 f_is_name)
variable (h_is_fraction:Fk P w T mg base "is_fraction" 1 2 f_is_fraction)
variable (h_is_statement:Fk P w T mg base "is_statement" 1 3 f_is_statement)
variable (h_is_statements:Fk P w T mg base "is_statements" 1 4 f_is_statements)
variable (h_stands_behind:Fk P w T mg base "stands_behind" 2 4 f_stands_behind)
variable (h_shows_statements:Fk P w T mg base "shows_statements" 2 5 f_shows_statements)
variable (h__law_begin:Fk P w T mg base "_law_begin" 1 1 f__law_begin)
variable (h__law_take:Fk P w T mg base "_law_take" 2 1 f__law_take)
variable (h__law_lowest:Fk P w T mg base "_law_lowest" 2 1 f__law_lowest)
variable (h__law_sum:Fk P w T mg base "_law_sum" 1 2 f__law_sum)
variable (h__law_names:Fk P w T mg base "_law_names" 2 2 f__law_names)
variable (h__law_is_number:Fk P w T mg base "_law_is_number" 1 1 f__law_is_number)
variable (h__law_is_fraction:Fk P w T mg base "_law_is_fraction" 1 2 f__law_is_fraction)
variable (h__law_is_row:Fk P w T mg base "_law_is_row" 1 3 f__law_is_row)
variable (h__law_goes_on:Fk P w T mg base "_law_goes_on" 2 3 f__law_goes_on)
variable (h__law_shown:Fk P w T mg base "_law_shown" 2 4 f__law_shown)
variable (h__law_taken_right:Fk P w T mg base "_law_taken_right" 2 6 f__law_taken_right)
variable (h__law_fraction:Fk P w T mg base "_law_fraction" 2 2 f__law_fraction)
variable (h__law_made:Fk P w T mg base "_law_made" 2 3 f__law_made)
variable (h__law_odd:Fk P w T mg base "_law_odd" 2 2 f__law_odd)
variable (h__law_any_name:Fk P w T mg base "_law_any_name" 1 2 f__law_any_name)
include z_abs in
theorem ok_greatest_divisor (_:Df T mg "greatest_divisor" (top 3)):Fk P w T mg base "greatest_divisor" 2 1 f_greatest_divisor:=by
 unfold f_greatest_divisor b_greatest_divisor
 refine fk_of ["one","other"] (by with_reducible assumption) ⟨rfl,rfl,rfl,by decide +kernel,rfl,by decide +kernel,by decide +kernel⟩ (by walk_at "b") rfl λ _ _ _ _ _ _ _=>?_
 walk_at "g"
include h_greatest_divisor in
theorem ok_plus (_:Df T mg "plus" (top 4)):Fk P w T mg base "plus" 2 2 f_plus:=by
 unfold f_plus b_plus
 refine fk_of ["one","other","shared","together","divisor","top","below","other_top","other_below"] (by with_reducible assumption) ⟨rfl,rfl,rfl,by decide +kernel,rfl,by decide +kernel,by decide +kernel⟩ (by walk_at "b") rfl λ _ _ _ _ _ _ _=>?_
 walk_at "g"
include q_NOTHING h_plus in
theorem ok_sum_of (_:Df T mg "sum_of" (top 5)):Fk P w T mg base "sum_of" 1 3 f_sum_of:=by
 unfold f_sum_of b_sum_of
 refine fk_of ["parts","together","part"] (by with_reducible assumption) ⟨rfl,rfl,rfl,by decide +kernel,rfl,by decide +kernel,by decide +kernel⟩ (by walk_at "b") rfl λ _ _ _ _ _ _ _=>?_
 walk_at "g"
include h_plus in
theorem ok_taken_from (_:Df T mg "taken_from" (top 6)):Fk P w T mg base "taken_from" 2 3 f_taken_from:=by
 unfold f_taken_from b_taken_from
 refine fk_of ["one","other"] (by with_reducible assumption) ⟨rfl,rfl,rfl,by decide +kernel,rfl,by decide +kernel,by decide +kernel⟩ (by walk_at "b") rfl λ _ _ _ _ _ _ _=>?_
 walk_at "g"
theorem ok_is_less (_:Df T mg "is_less" (top 7)):Fk P w T mg base "is_less" 2 1 f_is_less:=by
 unfold f_is_less b_is_less
 refine fk_of ["one","other"] (by with_reducible assumption) ⟨rfl,rfl,rfl,by decide +kernel,rfl,by decide +kernel,by decide +kernel⟩ (by walk_at "b") rfl λ _ _ _ _ _ _ _=>?_
 walk_at "g"
include z_bool z_int z_isinstance in
theorem ok_is_number (_:Df T mg "is_number" (top 10)):Fk P w T mg base "is_number" 1 1 f_is_number:=by
 unfold f_is_number b_is_number
 refine fk_of ["thing"] (by with_reducible assumption) ⟨rfl,rfl,rfl,by decide +kernel,rfl,by decide +kernel,by decide +kernel⟩ (by walk_at "b") rfl λ _ _ _ _ _ _ _=>?_
 walk_at "g"
include z_isinstance z_len z_tuple in
theorem ok_is_tuple_of (_:Df T mg "is_tuple_of" (top 11)):Fk P w T mg base "is_tuple_of" 2 1 f_is_tuple_of:=by
 unfold f_is_tuple_of b_is_tuple_of
 refine fk_of ["thing","many"] (by with_reducible assumption) ⟨rfl,rfl,rfl,by decide +kernel,rfl,by decide +kernel,by decide +kernel⟩ (by walk_at "b") rfl λ _ _ _ _ _ _ _=>?_
 walk_at "g"
include z_all z_isinstance z_len z_str q_LONGEST_NAME in
theorem ok_is_name (_:Df T mg "is_name" (top 12)):Fk P w T mg base "is_name" 1 1 f_is_name:=by
 unfold f_is_name b_is_name
 refine fk_of ["thing"] (by with_reducible assumption) ⟨rfl,rfl,rfl,by decide +kernel,rfl,by decide +kernel,by decide +kernel⟩ (by walk_at "b") rfl λ _ _ _ _ _ _ _=>?_
 walk_at "g"
include z_all h_greatest_divisor h_is_number h_is_tuple_of in
theorem ok_is_fraction (_:Df T mg "is_fraction" (top 13)):Fk P w T mg base "is_fraction" 1 2 f_is_fraction:=by
 unfold f_is_fraction b_is_fraction
 refine fk_of ["thing","top","below"] (by with_reducible assumption) ⟨rfl,rfl,rfl,by decide +kernel,rfl,by decide +kernel,by decide +kernel⟩ (by walk_at "b") rfl λ _ _ _ _ _ _ _=>?_
 walk_at "g"
include z_all q_PLACES h_is_number h_is_tuple_of h_is_name h_is_fraction in
theorem ok_is_statement (_:Df T mg "is_statement" (top 18)):Fk P w T mg base "is_statement" 1 3 f_is_statement:=by
 unfold f_is_statement b_is_statement
 refine fk_of ["thing","person","earned","freed","worked","paid","ready","kept","wrong","advance"] (by with_reducible assumption) ⟨rfl,rfl,rfl,by decide +kernel,rfl,by decide +kernel,by decide +kernel⟩ (by walk_at "b") rfl λ _ _ _ _ _ _ _=>?_
 walk_at "g"
include z_all z_isinstance z_list z_tuple z_zip h_is_statement in
theorem ok_is_statements (_:Df T mg "is_statements" (top 17)):Fk P w T mg base "is_statements" 1 4 f_is_statements:=by
 unfold f_is_statements b_is_statements
 refine fk_of ["thing"] (by with_reducible assumption) ⟨rfl,rfl,rfl,by decide +kernel,rfl,by decide +kernel,by decide +kernel⟩ (by walk_at "b") rfl λ _ _ _ _ _ _ _=>?_
 walk_at "g"
include q_NOTHING q_ONE h_sum_of h_taken_from h_is_less in
theorem ok_stands_behind (_:Df T mg "stands_behind" (top 19)):Fk P w T mg base "stands_behind" 2 4 f_stands_behind:=by
 unfold f_stands_behind b_stands_behind
 refine fk_of ["row","later","due","ready_ahead","kept_ahead","person","earned","freed","worked","paid","ready","kept","wrong","advance"] (by with_reducible assumption) ⟨rfl,rfl,rfl,by decide +kernel,rfl,by decide +kernel,by decide +kernel⟩ (by walk_at "b") rfl λ _ _ _ _ _ _ _=>?_
 walk_at "g"
include z_all z_zip h_is_statements h_stands_behind in
theorem ok_shows_statements (_:Df T mg "shows_statements" (top 16)):Fk P w T mg base "shows_statements" 2 5 f_shows_statements:=by
 unfold f_shows_statements b_shows_statements
 refine fk_of ["one","other"] (by with_reducible assumption) ⟨rfl,rfl,rfl,by decide +kernel,rfl,by decide +kernel,by decide +kernel⟩ (by walk_at "b") rfl λ _ _ _ _ _ _ _=>?_
 walk_at "g"
include z_list in
theorem ok__law_begin (_:Df T mg "_law_begin" (top 21)):Fk P w T mg base "_law_begin" 1 1 f__law_begin:=by
 unfold f__law_begin b__law_begin
 refine fk_of ["_law_script","_law_cells"] (by with_reducible assumption) ⟨rfl,rfl,rfl,by decide +kernel,rfl,by decide +kernel,by decide +kernel⟩ (by walk_at "b") rfl λ _ _ _ _ _ _ _=>?_
 walk_at "g"
include z_divmod z_len in
theorem ok__law_take (_:Df T mg "_law_take" (top 22)):Fk P w T mg base "_law_take" 2 1 f__law_take:=by
 unfold f__law_take b__law_take
 refine fk_of ["_law_state","_law_many","_law_turn","_law_place","_law_cell","_law_mixed","_law_digit"] (by with_reducible assumption) ⟨rfl,rfl,rfl,by decide +kernel,rfl,by decide +kernel,by decide +kernel⟩ (by walk_at "b") rfl λ _ _ _ _ _ _ _=>?_
 walk_at "g"
include z_abs in
theorem ok__law_lowest (_:Df T mg "_law_lowest" (top 23)):Fk P w T mg base "_law_lowest" 2 1 f__law_lowest:=by
 unfold f__law_lowest b__law_lowest
 refine fk_of ["_law_top","_law_below","_law_sign","_law_one","_law_other"] (by with_reducible assumption) ⟨rfl,rfl,rfl,by decide +kernel,rfl,by decide +kernel,by decide +kernel⟩ (by walk_at "b") rfl λ _ _ _ _ _ _ _=>?_
 walk_at "g"
include h__law_lowest in
theorem ok__law_sum (_:Df T mg "_law_sum" (top 24)):Fk P w T mg base "_law_sum" 1 2 f__law_sum:=by
 unfold f__law_sum b__law_sum
 refine fk_of ["_law_parts","_law_top","_law_below","_law_one","_law_other"] (by with_reducible assumption) ⟨rfl,rfl,rfl,by decide +kernel,rfl,by decide +kernel,by decide +kernel⟩ (by walk_at "b") rfl λ _ _ _ _ _ _ _=>?_
 walk_at "g"
include z_len z_range h__law_take in
theorem ok__law_names (_:Df T mg "_law_names" (top 25)):Fk P w T mg base "_law_names" 2 2 f__law_names:=by
 unfold f__law_names b__law_names
 refine fk_of ["_law_state","_law_many","_law_some"] (by with_reducible assumption) ⟨rfl,rfl,rfl,by decide +kernel,rfl,by decide +kernel,by decide +kernel⟩ (by walk_at "b") rfl λ _ _ _ _ _ _ _=>?_
 walk_at "g"
include z_bool z_int z_isinstance in
theorem ok__law_is_number (_:Df T mg "_law_is_number" (top 26)):Fk P w T mg base "_law_is_number" 1 1 f__law_is_number:=by
 unfold f__law_is_number b__law_is_number
 refine fk_of ["_law_thing"] (by with_reducible assumption) ⟨rfl,rfl,rfl,by decide +kernel,rfl,by decide +kernel,by decide +kernel⟩ (by walk_at "b") rfl λ _ _ _ _ _ _ _=>?_
 walk_at "g"
include z_all z_isinstance z_len z_tuple h__law_lowest h__law_is_number in
theorem ok__law_is_fraction (_:Df T mg "_law_is_fraction" (top 27)):Fk P w T mg base "_law_is_fraction" 1 2 f__law_is_fraction:=by
 unfold f__law_is_fraction b__law_is_fraction
 refine fk_of ["_law_thing"] (by with_reducible assumption) ⟨rfl,rfl,rfl,by decide +kernel,rfl,by decide +kernel,by decide +kernel⟩ (by walk_at "b") rfl λ _ _ _ _ _ _ _=>?_
 walk_at "g"
include z_all z_isinstance z_len z_str z_tuple h__law_is_number h__law_is_fraction in
theorem ok__law_is_row (_:Df T mg "_law_is_row" (top 28)):Fk P w T mg base "_law_is_row" 1 3 f__law_is_row:=by
 unfold f__law_is_row b__law_is_row
 refine fk_of ["_law_thing","_law_small"] (by with_reducible assumption) ⟨rfl,rfl,rfl,by decide +kernel,rfl,by decide +kernel,by decide +kernel⟩ (by walk_at "b") rfl λ _ _ _ _ _ _ _=>?_
 walk_at "g"
include h__law_sum in
theorem ok__law_goes_on (_:Df T mg "_law_goes_on" (top 29)):Fk P w T mg base "_law_goes_on" 2 3 f__law_goes_on:=by
 unfold f__law_goes_on b__law_goes_on
 refine fk_of ["_law_one","_law_other","_law_have"] (by with_reducible assumption) ⟨rfl,rfl,rfl,by decide +kernel,rfl,by decide +kernel,by decide +kernel⟩ (by walk_at "b") rfl λ _ _ _ _ _ _ _=>?_
 walk_at "g"
include z_all z_isinstance z_list z_set z_sorted z_tuple z_zip h__law_is_row h__law_goes_on in
theorem ok__law_shown (_:Df T mg "_law_shown" (top 30)):Fk P w T mg base "_law_shown" 2 4 f__law_shown:=by
 unfold f__law_shown b__law_shown
 refine fk_of ["_law_one","_law_other","_law_thing","_law_names_here"] (by with_reducible assumption) ⟨rfl,rfl,rfl,by decide +kernel,rfl,by decide +kernel,by decide +kernel⟩ (by walk_at "b") rfl λ _ _ _ _ _ _ _=>?_
 walk_at "g"
include z_bool z_isinstance z_list h_shows_statements h__law_shown in
theorem ok__law_taken_right (_:Df T mg "_law_taken_right" (top 31)):Fk P w T mg base "_law_taken_right" 2 6 f__law_taken_right:=by
 unfold f__law_taken_right b__law_taken_right
 refine fk_of ["_law_one","_law_other","_law_held","_law_found"] (by with_reducible assumption) ⟨rfl,rfl,rfl,by decide +kernel,rfl,by decide +kernel,by decide +kernel⟩ (by walk_at "b") rfl λ _ _ _ _ _ _ _=>?_
 walk_at "g"
include h__law_take h__law_lowest in
theorem ok__law_fraction (_:Df T mg "_law_fraction" (top 32)):Fk P w T mg base "_law_fraction" 2 2 f__law_fraction:=by
 unfold f__law_fraction b__law_fraction
 refine fk_of ["_law_state","_law_most","_law_below"] (by with_reducible assumption) ⟨rfl,rfl,rfl,by decide +kernel,rfl,by decide +kernel,by decide +kernel⟩ (by walk_at "b") rfl λ _ _ _ _ _ _ _=>?_
 walk_at "g"
include z_int z_max h__law_take h__law_lowest h__law_sum h__law_fraction in
theorem ok__law_made (_:Df T mg "_law_made" (top 33)):Fk P w T mg base "_law_made" 2 3 f__law_made:=by
 unfold f__law_made b__law_made
 refine fk_of ["_law_state","_law_name","_law_one","_law_freed","_law_keep","_law_earned","_law_whole","_law_coins","_law_worked","_law_left","_law_owed","_law_opened","_law_kept"] (by with_reducible assumption) ⟨rfl,rfl,rfl,by decide +kernel,rfl,by decide +kernel,by decide +kernel⟩ (by walk_at "b") rfl λ _ _ _ _ _ _ _=>?_
 walk_at "g"
include z_len z_list z_tuple h__law_take in
theorem ok__law_odd (_:Df T mg "_law_odd" (top 34)):Fk P w T mg base "_law_odd" 2 2 f__law_odd:=by
 unfold f__law_odd b__law_odd
 refine fk_of ["_law_state","_law_row","_law_found","_law_k","_law_some","_law_one","_law_other"] (by with_reducible assumption) ⟨rfl,rfl,rfl,by decide +kernel,rfl,by decide +kernel,by decide +kernel⟩ (by walk_at "b") rfl λ _ _ _ _ _ _ _=>?_
 walk_at "g"
include z_len z_range h__law_take in
theorem ok__law_any_name (_:Df T mg "_law_any_name" (top 35)):Fk P w T mg base "_law_any_name" 1 2 f__law_any_name:=by
 unfold f__law_any_name b__law_any_name
 refine fk_of ["_law_state","_law_name","_law_turn","_law_every","_law_sign","_law_spot","_law_way"] (by with_reducible assumption) ⟨rfl,rfl,rfl,by decide +kernel,rfl,by decide +kernel,by decide +kernel⟩ (by walk_at "b") rfl λ _ _ _ _ _ _ _=>?_
 walk_at "g"
include z_len z_list z_range z_sorted z_tuple h_shows_statements h__law_begin h__law_take h__law_names h__law_taken_right h__law_made h__law_odd h__law_any_name in
theorem ok_law {f:Addr}{fd:FuncData}(F:Fun T.K "law" "law" (top 36) f fd):FnOk P w T.K mg base CX0 7 f fd ["_law_script"] (spOf T 1 f_law):=by
 unfold f_law b_law
 have S:FnScope ["_law_script","_law_state","_law_names_here","_law_pairs","_law_turn","_law_odd_here","_law_thing","_law_one","_law_other","_law_some","_law_at","_law_name","_law_first","_law_second"] ["_law_script"] (defScope (top 36)):=⟨rfl,rfl,rfl,by decide +kernel,rfl,by decide +kernel,by decide +kernel⟩
 refine fn_ok (k:=6) F S λ _ _ _ _ _ _ hr=>?_
 have nd:=S.nd
 revert nd hr
 walk_at "g"
end
theorem all_ok {P:Program}{w:World}{T:Tx}{mg:Str->Option Value}{base:Heap}(z_abs:mg "abs"=none)(z_all:mg "all"=none)(z_bool:mg "bool"=none)(z_divmod:mg "divmod"=none)(z_int:mg "int"=none)(z_isinstance:mg "isinstance"=none)(z_len:mg "len"=none)(z_list:mg "list"=none)(z_max:mg "max"=none)(z_range:mg "range"=none)(z_set:mg "set"=none)(z_sorted:mg "sorted"=none)(z_str:mg "str"=none)(z_tuple:mg "tuple"=none)(z_zip:mg "zip"=none)(q_LONGEST_NAME:Kst T mg "LONGEST_NAME" k_LONGEST_NAME)(q_NOTHING:Kst T mg "NOTHING" k_NOTHING)(q_ONE:Kst T mg "ONE" k_ONE)(q_PLACES:Kst T mg "PLACES" k_PLACES)(d0:Df T mg "greatest_divisor" (top 3)) (d1:Df T mg "plus" (top 4)) (d2:Df T mg "sum_of" (top 5)) (d3:Df T mg "taken_from" (top 6)) (d4:Df T mg "is_less" (top 7)) (d5:Df T mg "is_number" (top 10)) (d6:Df T mg "is_tuple_of" (top 11)) (d7:Df T mg "is_name" (top 12)) (d8:Df T mg "is_fraction" (top 13)) (d9:Df T mg "is_statement" (top 18)) (d10:Df T mg "is_statements" (top 17)) (d11:Df T mg "stands_behind" (top 19)) (d12:Df T mg "shows_statements" (top 16)) (d13:Df T mg "_law_begin" (top 21)) (d14:Df T mg "_law_take" (top 22)) (d15:Df T mg "_law_lowest" (top 23)) (d16:Df T mg "_law_sum" (top 24)) (d17:Df T mg "_law_names" (top 25)) (d18:Df T mg "_law_is_number" (top 26)) (d19:Df T mg "_law_is_fraction" (top 27)) (d20:Df T mg "_law_is_row" (top 28)) (d21:Df T mg "_law_goes_on" (top 29)) (d22:Df T mg "_law_shown" (top 30)) (d23:Df T mg "_law_taken_right" (top 31)) (d24:Df T mg "_law_fraction" (top 32)) (d25:Df T mg "_law_made" (top 33)) (d26:Df T mg "_law_odd" (top 34)) (d27:Df T mg "_law_any_name" (top 35)) (d28:Df T mg "law" (top 36)) {f:Addr}{fd:FuncData}(F:Fun T.K "law" "law" (top 36) f fd) :
  FnOk P w T.K mg base CX0 7 f fd ["_law_script"] (spOf T 1 f_law):=by
 have h_greatest_divisor:=ok_greatest_divisor (P:=P) (w:=w) (base:=base) z_abs d0
 have h_plus:=ok_plus (P:=P) (w:=w) (base:=base) h_greatest_divisor d1
 have h_sum_of:=ok_sum_of (P:=P) (w:=w) (base:=base) q_NOTHING h_plus d2
 have h_taken_from:=ok_taken_from (P:=P) (w:=w) (base:=base) h_plus d3
 have h_is_less:=ok_is_less (P:=P) (w:=w) (base:=base) d4
 have h_is_number:=ok_is_number (P:=P) (w:=w) (base:=base) z_bool z_int z_isinstance d5
 have h_is_tuple_of:=ok_is_tuple_of (P:=P) (w:=w) (base:=base) z_isinstance z_len z_tuple d6
 have h_is_name:=ok_is_name (P:=P) (w:=w) (base:=base) z_all z_isinstance z_len z_str q_LONGEST_NAME d7
 have h_is_fraction:=ok_is_fraction (P:=P) (w:=w) (base:=base) z_all h_greatest_divisor h_is_number h_is_tuple_of d8
 have h_is_statement:=ok_is_statement (P:=P) (w:=w) (base:=base) z_all q_PLACES h_is_number h_is_tuple_of h_is_name h_is_fraction d9
 have h_is_statements:=ok_is_statements (P:=P) (w:=w) (base:=base) z_all z_isinstance z_list z_tuple z_zip h_is_statement d10
 have h_stands_behind:=ok_stands_behind (P:=P) (w:=w) (base:=base) q_NOTHING q_ONE h_sum_of h_taken_from h_is_less d11
 have h_shows_statements:=ok_shows_statements (P:=P) (w:=w) (base:=base) z_all z_zip h_is_statements h_stands_behind d12
 have h__law_begin:=ok__law_begin (P:=P) (w:=w) (base:=base) z_list d13
 have h__law_take:=ok__law_take (P:=P) (w:=w) (base:=base) z_divmod z_len d14
 have h__law_lowest:=ok__law_lowest (P:=P) (w:=w) (base:=base) z_abs d15
 have h__law_sum:=ok__law_sum (P:=P) (w:=w) (base:=base) h__law_lowest d16
 have h__law_names:=ok__law_names (P:=P) (w:=w) (base:=base) z_len z_range h__law_take d17
 have h__law_is_number:=ok__law_is_number (P:=P) (w:=w) (base:=base) z_bool z_int z_isinstance d18
 have h__law_is_fraction:=ok__law_is_fraction (P:=P) (w:=w) (base:=base) z_all z_isinstance z_len z_tuple h__law_lowest h__law_is_number d19
 have h__law_is_row:=ok__law_is_row (P:=P) (w:=w) (base:=base) z_all z_isinstance z_len z_str z_tuple h__law_is_number h__law_is_fraction d20
 have h__law_goes_on:=ok__law_goes_on (P:=P) (w:=w) (base:=base) h__law_sum d21
 have h__law_shown:=ok__law_shown (P:=P) (w:=w) (base:=base) z_all z_isinstance z_list z_set z_sorted z_tuple z_zip h__law_is_row h__law_goes_on d22
 have h__law_taken_right:=ok__law_taken_right (P:=P) (w:=w) (base:=base) z_bool z_isinstance z_list h_shows_statements h__law_shown d23
 have h__law_fraction:=ok__law_fraction (P:=P) (w:=w) (base:=base) h__law_take h__law_lowest d24
 have h__law_made:=ok__law_made (P:=P) (w:=w) (base:=base) z_int z_max h__law_take h__law_lowest h__law_sum h__law_fraction d25
 have h__law_odd:=ok__law_odd (P:=P) (w:=w) (base:=base) z_len z_list z_tuple h__law_take d26
 have h__law_any_name:=ok__law_any_name (P:=P) (w:=w) (base:=base) z_len z_range h__law_take d27
 exact ok_law z_len z_list z_range z_sorted z_tuple h_shows_statements h__law_begin h__law_take h__law_names h__law_taken_right h__law_made h__law_odd h__law_any_name F
theorem fin_mk {l:PySem.W.OpenLaw}{w:World}{K:PySem.W.Frag}{h:Heap}{mg:Str->Option Value}{fa:Addr}(X:K.In h)(G:h.Ns mainGlobals mg)(hfa:mg "law"=some (.ref fa)) (z_abs:PySem.W.nsIn K mainGlobals "abs"=some none)(z_all:PySem.W.nsIn K mainGlobals "all"=some none)(z_bool:PySem.W.nsIn K mainGlobals "bool"=some none)(z_divmod:PySem.W.nsIn K mainGlobals "divmod"=some none)(z_int:PySem.W.nsIn K mainGlobals "int"=some none)(z_isinstance:PySem.W.nsIn K mainGlobals "isinstance"=some none)(z_len:PySem.W.nsIn K mainGlobals "len"=some none)(z_list:PySem.W.nsIn K mainGlobals "list"=some none)(z_max:PySem.W.nsIn K mainGlobals "max"=some none)(z_range:PySem.W.nsIn K mainGlobals "range"=some none)(z_set:PySem.W.nsIn K mainGlobals "set"=some none)(z_sorted:PySem.W.nsIn K mainGlobals "sorted"=some none)(z_str:PySem.W.nsIn K mainGlobals "str"=some none)(z_tuple:PySem.W.nsIn K mainGlobals "tuple"=some none)(z_zip:PySem.W.nsIn K mainGlobals "zip"=some none)(q_LONGEST_NAME:Kst (TK K) mg "LONGEST_NAME" k_LONGEST_NAME) (q_NOTHING:Kst (TK K) mg "NOTHING" k_NOTHING) (q_ONE:Kst (TK K) mg "ONE" k_ONE) (q_PLACES:Kst (TK K) mg "PLACES" k_PLACES) (d0:Df (TK K) mg "greatest_divisor" (top 3)) (d1:Df (TK K) mg "plus" (top 4)) (d2:Df (TK K) mg "sum_of" (top 5)) (d3:Df (TK K) mg "taken_from" (top 6)) (d4:Df (TK K) mg "is_less" (top 7)) (d5:Df (TK K) mg "is_number" (top 10)) (d6:Df (TK K) mg "is_tuple_of" (top 11)) (d7:Df (TK K) mg "is_name" (top 12)) (d8:Df (TK K) mg "is_fraction" (top 13)) (d9:Df (TK K) mg "is_statement" (top 18)) (d10:Df (TK K) mg "is_statements" (top 17)) (d11:Df (TK K) mg "stands_behind" (top 19)) (d12:Df (TK K) mg "shows_statements" (top 16)) (d13:Df (TK K) mg "_law_begin" (top 21)) (d14:Df (TK K) mg "_law_take" (top 22)) (d15:Df (TK K) mg "_law_lowest" (top 23)) (d16:Df (TK K) mg "_law_sum" (top 24)) (d17:Df (TK K) mg "_law_names" (top 25)) (d18:Df (TK K) mg "_law_is_number" (top 26)) (d19:Df (TK K) mg "_law_is_fraction" (top 27)) (d20:Df (TK K) mg "_law_is_row" (top 28)) (d21:Df (TK K) mg "_law_goes_on" (top 29)) (d22:Df (TK K) mg "_law_shown" (top 30)) (d23:Df (TK K) mg "_law_taken_right" (top 31)) (d24:Df (TK K) mg "_law_fraction" (top 32)) (d25:Df (TK K) mg "_law_made" (top 33)) (d26:Df (TK K) mg "_law_odd" (top 34)) (d27:Df (TK K) mg "_law_any_name" (top 35)) (d28:Df (TK K) mg "law" (top 36)):∃ fd:FuncData,(∀ (s:Shared) (v:Value),BindsTo s fd ⟨[v],[]⟩ [("_law_script",v)])/\∀ base:Heap,K.In base->base.Ns mainGlobals mg->FnOk l.prog w K mg base CX0 7 fa fd ["_law_script"] (spOf (TK K) 1 f_law):=
 fin_of (h:=h) hfa d28 (λ _ _ _ _ _ _ _ _=>.of_eq rfl) λ base f fd F=>all_ok (PySem.W.mg_none_of X G z_abs) (PySem.W.mg_none_of X G z_all) (PySem.W.mg_none_of X G z_bool) (PySem.W.mg_none_of X G z_divmod) (PySem.W.mg_none_of X G z_int) (PySem.W.mg_none_of X G z_isinstance) (PySem.W.mg_none_of X G z_len) (PySem.W.mg_none_of X G z_list) (PySem.W.mg_none_of X G z_max) (PySem.W.mg_none_of X G z_range) (PySem.W.mg_none_of X G z_set) (PySem.W.mg_none_of X G z_sorted) (PySem.W.mg_none_of X G z_str) (PySem.W.mg_none_of X G z_tuple) (PySem.W.mg_none_of X G z_zip) q_LONGEST_NAME q_NOTHING q_ONE q_PLACES d0 d1 d2 d3 d4 d5 d6 d7 d8 d9 d10 d11 d12 d13 d14 d15 d16 d17 d18 d19 d20 d21 d22 d23 d24 d25 d26 d27 d28 F
end Ro
namespace Ro
open PySem L2
end Ro
namespace L2
open PySem PySem.Spec PyProof.Rows
end L2
namespace Ro
open PySem L2
end Ro
namespace Ro
open PySem L2
abbrev Fs:=List (Int × Int)
def den:Fs->Int
 | []=>1
 | f :: r=>f.2 * den r
def num:Fs->Int
 | []=>0
 | f :: r=>f.1 * den r+f.2 * num r
def Pos1 (fs:Fs):Prop:=∀ f∈fs,1<=f.2
theorem den_pos:∀ {fs:Fs},Pos1 fs->1<=den fs
 | [],_=>by decide
 | f :: r,h=>by
  have h1:1<=f.2:=h f List.mem_cons_self
  have h2:=den_pos (fs:=r) λ g hg=>h g (List.mem_cons_of_mem _ hg)
  show 1<=f.2 * den r
  have:=Int.mul_pos (show 0 < f.2 by omega) (show 0 < den r by omega)
  omega
end Ro
namespace Ro
open PySem L2
abbrev ig (a b:Int):Int:=((Int.gcd a b:Nat):Int)
theorem ig_l (a b:Int):ig a b ∣ a:=Int.gcd_dvd_left ..
theorem ig_r (a b:Int):ig a b ∣ b:=Int.gcd_dvd_right ..
theorem co_iff {a b:Int}:Int.gcd a b=1 ↔ Nat.Coprime a.natAbs b.natAbs:=Iff.rfl
theorem co_mul_l {a b c:Int}(h1:Int.gcd a c=1)(h2:Int.gcd b c=1):Int.gcd (a * b) c=1:=by
 rw[co_iff]at *
 rw[Int.natAbs_mul]
 exact Nat.Coprime.mul_left h1 h2
theorem co_mul_r {a b c:Int}(h1:Int.gcd a b=1)(h2:Int.gcd a c=1):Int.gcd a (b * c)=1:=by
 rw[co_iff]at *
 rw[Int.natAbs_mul]
 exact Nat.Coprime.mul_right h1 h2
theorem co_dvd {a b x y:Int}(h:Int.gcd a b=1)(h1:x ∣ a)(h2:y ∣ b):Int.gcd x y=1:=by
 rw[co_iff]at *
 have q:Nat.gcd x.natAbs y.natAbs ∣ Nat.gcd a.natAbs b.natAbs:=Nat.dvd_gcd (Nat.dvd_trans (Nat.gcd_dvd_left ..) (Int.natAbs_dvd_natAbs.mpr h1)) (Nat.dvd_trans (Nat.gcd_dvd_right ..) (Int.natAbs_dvd_natAbs.mpr h2))
 rw[show Nat.gcd a.natAbs b.natAbs=1 from h]at q
 exact Nat.dvd_one.mp q
theorem co_div {a b:Int}(hb:b≠0):Int.gcd (a.fdiv (ig a b)) (b.fdiv (ig a b))=1:=by
 have p:=gcd_pos (t:=a) hb
 have e1:=fdiv_of_dvd (ig_l a b)
 have e2:=fdiv_of_dvd (ig_r a b)
 have q:Int.gcd (a.fdiv (ig a b) * ig a b) (b.fdiv (ig a b) * ig a b)=Int.gcd a b:=by rw[e1,e2]
 rw[Int.gcd_mul_right]at q
 have n:(ig a b).natAbs=Int.gcd a b:=Int.natAbs_natCast _
 rw[n]at q
 exact Nat.eq_of_mul_eq_mul_right p (by rw[q,Nat.one_mul])
theorem fdiv_pos {a g:Int}(h:g ∣ a)(ha:1<=a)(hg:1<=g):1<=a.fdiv g:=by
 have e:=fdiv_of_dvd h
 refine Int.not_lt.mp λ z=>?_
 have:a.fdiv g * g<=0:=Int.mul_nonpos_of_nonpos_of_nonneg (by omega) (by omega)
 omega
theorem prod_fr {a b c d:Int}(hb:1<=b)(hd:1<=d)(h1:Int.gcd a b=1)(h2:Int.gcd c d=1) :
  fr (a * c) (b * d)=(a.fdiv (ig a d) * c.fdiv (ig c b),b.fdiv (ig c b) * d.fdiv (ig a d)):=by
 have hb0:b≠0:=by omega
 have hd0:d≠0:=by omega
 have p1:1<=ig a d:=by have:=gcd_pos (t:=a) hd0;show(1:Int)<=((Int.gcd a d:Nat):Int);omega
 have p2:1<=ig c b:=by have:=gcd_pos (t:=c) hb0;show(1:Int)<=((Int.gcd c b:Nat):Int);omega
 have ea:=fdiv_of_dvd (ig_l a d)
 have ed:=fdiv_of_dvd (ig_r a d)
 have ec:=fdiv_of_dvd (ig_l c b)
 have eb:=fdiv_of_dvd (ig_r c b)
 have c1:=co_div (a:=a) hd0
 have c2:=co_div (a:=c) hb0
 have d1:=fdiv_pos (ig_r a d) hd p1
 have d2:=fdiv_pos (ig_r c b) hb p2
 have da:a.fdiv (ig a d) ∣ a:=⟨_,ea.symm⟩
 have db:b.fdiv (ig c b) ∣ b:=⟨_,eb.symm⟩
 have dc:c.fdiv (ig c b) ∣ c:=⟨_,ec.symm⟩
 have dd:d.fdiv (ig a d) ∣ d:=⟨_,ed.symm⟩
 refine fr_uniq (Int.mul_ne_zero hb0 hd0) ?_ ?_ ?_
 ·have:=Int.mul_pos (show 0 < b.fdiv (ig c b) by omega) (show 0 < d.fdiv (ig a d) by omega)
  omega
 ·exact co_mul_l (co_mul_r (co_dvd h1 da db) c1) (co_mul_r c2 (co_dvd h2 dc dd))
 ·generalize a.fdiv (ig a d)=a' at *
  generalize d.fdiv (ig a d)=d' at *
  generalize c.fdiv (ig c b)=c' at *
  generalize b.fdiv (ig c b)=b' at *
  generalize ig a d=g at *
  generalize ig c b=k at *
  rw[<-ea,<-ed,<-ec,<-eb]
  simp only[Int.mul_assoc,Int.mul_comm,Int.mul_left_comm]
theorem plus_fr {t b u d:Int}(hb:1<=b)(hd:1<=d)(h1:Int.gcd t b=1)(h2:Int.gcd u d=1) :
  fr (t * d+u * b) (b * d)=((t * d.fdiv (ig b d)+u * b.fdiv (ig b d)).fdiv (ig (t * d.fdiv (ig b d)+u * b.fdiv (ig b d)) (ig b d)),b.fdiv (ig b d) * d.fdiv (ig (t * d.fdiv (ig b d)+u * b.fdiv (ig b d)) (ig b d))):=by
 have hb0:b≠0:=by omega
 have hd0:d≠0:=by omega
 have ps:1<=ig b d:=by have:=gcd_pos (t:=b) hd0;show(1:Int)<=((Int.gcd b d:Nat):Int);omega
 have eb:=fdiv_of_dvd (ig_l b d)
 have ed:=fdiv_of_dvd (ig_r b d)
 have cbd:=co_div (a:=b) hd0
 have db:b.fdiv (ig b d) ∣ b:=⟨_,eb.symm⟩
 have dd:d.fdiv (ig b d) ∣ d:=⟨_,ed.symm⟩
 have pb:=fdiv_pos (ig_l b d) hb ps
 have pd:=fdiv_pos (ig_r b d) hd ps
 have ctb:=co_dvd h1 (Int.dvd_refl t) db
 have cud:=co_dvd h2 (Int.dvd_refl u) dd
 generalize b.fdiv (ig b d)=b' at *
 generalize hd':d.fdiv (ig b d)=d' at *
 generalize ig b d=s at *
 generalize hT:t * d'+u * b'=T at *
 have s0:s≠0:=by omega
 have pg:1<=ig T s:=by have:=gcd_pos (t:=T) s0;show(1:Int)<=((Int.gcd T s:Nat):Int);omega
 have eT:=fdiv_of_dvd (ig_l T s)
 have es:=fdiv_of_dvd (ig_r T s)
 have cTs:=co_div (a:=T) s0
 have psg:=fdiv_pos (ig_r T s) ps pg
 have dT:T.fdiv (ig T s) ∣ T:=⟨_,eT.symm⟩
 have dg:d.fdiv (ig T s)=d' * s.fdiv (ig T s):=by
  have e:d=d' * s.fdiv (ig T s) * ig T s:=by rw[Int.mul_assoc,es,ed]
  have g0:ig T s≠0:=by omega
  have e2:d.fdiv (ig T s) * ig T s=d' * s.fdiv (ig T s) * ig T s:=by
   rw[fdiv_of_dvd (⟨_,by rw[Int.mul_comm];exact e⟩:ig T s ∣ d)]
   exact e
  exact Int.eq_of_mul_eq_mul_right g0 e2
 have coT1:Int.gcd T b'=1:=by
  have q:Int.gcd (t * d') b'=1:=co_mul_l ctb (by rw[Int.gcd_comm];exact cbd)
  rw[<-hT]
  rw[<-q]
  exact Int.gcd_add_mul_right_left ..
 have coT2:Int.gcd T d'=1:=by
  have q:Int.gcd (u * b') d'=1:=co_mul_l cud cbd
  rw[<-hT,Int.add_comm,<-q]
  exact Int.gcd_add_mul_right_left ..
 rw[dg]
 refine fr_uniq (Int.mul_ne_zero hb0 hd0) ?_ ?_ ?_
 ·have:=Int.mul_pos (show 0 < d' by omega) (show 0 < s.fdiv (ig T s) by omega)
  have:=Int.mul_pos (show 0 < b' by omega) this
  omega
 ·exact co_mul_r (co_dvd coT1 dT (Int.dvd_refl _)) (co_mul_r (co_dvd coT2 dT (Int.dvd_refl _)) cTs)
 ·generalize s.fdiv (ig T s)=k at *
  generalize T.fdiv (ig T s)=T' at *
  generalize ig T s=g at *
  have eN:t * d+u * b=T' * g * s:=by
   rw[eT,<-hT,<-ed,<-eb,Int.add_mul,<-Int.mul_assoc,<-Int.mul_assoc]
  rw[eN,<-ed,<-eb,<-es]
  simp only[Int.mul_assoc,Int.mul_comm,Int.mul_left_comm]
end Ro
namespace Ro
open PySem L2 Mm
def fq (q:Rat):AV:=.tup [.int q.num,.int q.den]
theorem rat_cop (q:Rat):Int.gcd q.num (q.den:Int)=1:=q.reduced
theorem rat_den (q:Rat):(1:Int)<=(q.den:Int):=by have:=q.den_pos;omega
theorem fr_rat {t b:Int}(h:b≠0):fr t b=((Rat.divInt t b).num,((Rat.divInt t b).den:Int)):=by
 refine fr_uniq h (rat_den _) (rat_cop _) ?_
 have e:=Rat.num_divInt_den (Rat.divInt t b)
 have:=(Rat.divInt_eq_divInt_iff (by have:=(Rat.divInt t b).den_pos;omega) h).mp e
 exact this
theorem add_rat (p q:Rat):p+q=Rat.divInt (p.num * q.den+q.num * p.den) (p.den * q.den):=by
 have h1:(p.den:Int)≠0:=by have:=p.den_pos;omega
 have h2:(q.den:Int)≠0:=by have:=q.den_pos;omega
 rw[<-Rat.divInt_add_divInt _ _ h1 h2,Rat.num_divInt_den,Rat.num_divInt_den]
theorem fr_add (p q:Rat):fr (p.num * q.den+q.num * p.den) (p.den * q.den)=((p+q).num,((p+q).den:Int)):=by
 have h1:(p.den:Int)≠0:=by have:=p.den_pos;omega
 have h2:(q.den:Int)≠0:=by have:=q.den_pos;omega
 rw[fr_rat (Int.mul_ne_zero h1 h2),add_rat]
structure Sz (n:Nat)(q:Rat):Prop where
 a:Fit n q.num
 b:Fit n (q.den:Int)
theorem Sz.mono {n m:Nat}{q:Rat}(h:Sz n q)(k:n<=m):Sz m q:=⟨h.a.mono k,h.b.mono k⟩
theorem fr_sz {t b:Int}{n:Nat}(h:b≠0)(ft:Fit n t)(fb:Fit n b):Sz n (Rat.divInt t b):=by
 have e:=fr_rat (t:=t) h
 have e1:(fr t b).1=(Rat.divInt t b).num:=by rw[e]
 have e2:(fr t b).2=((Rat.divInt t b).den:Int):=by rw[e]
 have g:=gsg_ne (t:=t) h
 refine⟨?_,?_⟩
 ·rw[<-e1]
  have h1:=fr_l t b
  refine ft.le ?_
  have:t.natAbs=(fr t b).1.natAbs * (gsg t b).natAbs:=by rw[<-Int.natAbs_mul,h1]
  rw[this]
  exact Nat.le_mul_of_pos_right _ (by omega)
 ·rw[<-e2]
  have h1:=fr_r t b
  refine fb.le ?_
  have:b.natAbs=(fr t b).2.natAbs * (gsg t b).natAbs:=by rw[<-Int.natAbs_mul,h1]
  rw[this]
  exact Nat.le_mul_of_pos_right _ (by omega)
theorem Sz.add {n m:Nat}{p q:Rat}(h:Sz n p)(k:Sz m q):Sz (n+m+1) (p+q):=by
 have h1:(p.den:Int)≠0:=by have:=p.den_pos;omega
 have h2:(q.den:Int)≠0:=by have:=q.den_pos;omega
 rw[add_rat]
 refine fr_sz (Int.mul_ne_zero h1 h2) ?_ ((h.b.mul k.b).mono (by omega))
 exact(h.a.mul k.b).add ((k.a.mul h.b).mono (by omega))
theorem Sz.neg {n:Nat}{p:Rat}(h:Sz n p):Sz n (-p):=⟨by rw[Rat.neg_num];exact h.a.neg,h.b⟩
theorem big_of {n:Nat}{i:Int}(h:Fit n i)(k:n<=60000000):Big i:=⟨h.mono k⟩
theorem mid_of {n:Nat}{i:Int}(h:Fit n i)(k:n<=9000):Mid i:=⟨h.mono k⟩
theorem fmod_nn {x y:Int}(hx:0<=x)(hy:0 < y):0<=x.fmod y/\x.fmod y < y:=by
 rw[Int.fmod_eq_emod_of_nonneg _ (by omega)]
 exact⟨Int.emod_nonneg _ (by omega),Int.emod_lt_of_pos _ hy⟩
theorem ig_fmod {x y:Int}(hy:0 < y):ig y (x.fmod y)=ig x y:=by
 rw[Int.fmod_eq_emod_of_nonneg _ (by omega)]
 show((Int.gcd y (x % y):Nat):Int)=((Int.gcd x y:Nat):Int)
 congr 1
 rw[Int.gcd_comm]
 have h1:=Int.emod_def x y
 rw[h1,Int.gcd_sub_mul_left_left]
theorem gcd_loop:∀ (n:Nat)(x y:Int)(s:S),0<=x->0<=y->y.natAbs < n->
  whl (cB (mBin opNe (mv 1) (mc (.int 0)))) (sPar 0 1 (pCons (mv 1) (pCons (mBin opMod (mv 0) (mv 1)) pNil))) n [some (.int x),some (.int y)] s=.nx [some (.int (ig x y)),some (.int 0)] s
 | 0,_,_,_,_,_,h=>absurd h (Nat.not_lt_zero _)
 | n+1,x,y,s,hx,hy,h=>by
  unfold whl
  have e:cB (mBin opNe (mv 1) (mc (.int 0))) [some (.int x),some (.int y)] s=.ok (!decide (y=0)) s:=rfl
  rw[e,bindS_ok]
  by_cases h0:y=0
  ·subst h0
   rw[if_neg (by simp)]
   rw[show ig x 0=x by show((Int.gcd x 0:Nat):Int)=x;rw[Int.gcd_zero_right];omega]
  ·have hy1:0 < y:=by omega
   obtain⟨m1,m2⟩:=fmod_nn hx hy1
   rw[if_pos (by simpa using h0)]
   have e2:sPar 0 1 (pCons (mv 1) (pCons (mBin opMod (mv 0) (mv 1)) pNil)) [some (.int x),some (.int y)] s=.nx [some (.int y),some (.int (x.fmod y))] s:=by
    have e3:opMod (.int x) (.int y) s=.ok (.int (x.fmod y)) s:=if_pos h0
    show((opMod (.int x) (.int y) s).bind _ |>.bind _).bindS _=_
    rw[e3];rfl
   rw[e2]
   show whl _ _ n _ s=_
   rw[gcd_loop n y (x.fmod y) s hy m1 (by omega),ig_fmod hy1]
theorem ig_abs (a b:Int):ig (if a < 0 then -a else a) (if b < 0 then -b else b)=ig a b:=by
 show((Int.gcd _ _:Nat):Int)=((Int.gcd a b:Nat):Int)
 congr 1
 split<;>split<;>simp[Int.gcd_neg,Int.neg_gcd]
theorem gcd_eq (a b:Int)(s:S):f_greatest_divisor [.int a,.int b] s=.ok (.int (ig a b)) s:=by
 apply R.wp.eq
 unfold f_greatest_divisor b_greatest_divisor
 have e:∀ x y:Int,fuel1 [some (AV.int x),some (AV.int y)]=y.natAbs+1:=λ _ _=>rfl
 simp only[↓WS,↓WE,↓WV,Lq,len_sz,UU,Nat.reduceSub,↓reduceIte,↓wp_whl,e]
 rw[wpeS (gcd_loop _ _ _ s (by split<;>omega) (by split<;>omega) (Nat.lt_succ_self _)),ig_abs]
 walk_at "w"
theorem fdiv_ok {i j:Int}{s:S}(h:j≠0)(k:Mid j):opFdiv (.int i) (.int j) s=.ok (.int (i.fdiv j)) s:=if_pos ⟨h,k⟩
theorem mul_ok {i j:Int}{s:S}(h:Big i)(k:Big j):opMul (.int i) (.int j) s=.ok (.int (i * j)) s:=if_pos ⟨h,k⟩
theorem ig_ne {a b:Int}(h:b≠0):ig a b≠0:=by have:=gcd_pos (t:=a) h;show((Int.gcd a b:Nat):Int)≠0;omega
theorem fit_ig_r {a b:Int}{n:Nat}(h:b≠0)(f:Fit n b):Fit n (ig a b):=f.le (by
 show((Int.gcd a b:Nat):Int).natAbs<=_
 rw[Int.natAbs_natCast]
 exact Nat.le_of_dvd (by omega) (Int.gcd_dvd_natAbs_right a b))
theorem fit_fdiv {a g:Int}{n:Nat}(h:g ∣ a)(h0:g≠0)(f:Fit n a):Fit n (a.fdiv g):=f.le (by
 have e:=fdiv_of_dvd h
 have:a.natAbs=(a.fdiv g).natAbs * g.natAbs:=by rw[<-Int.natAbs_mul,e]
 rw[this]
 exact Nat.le_mul_of_pos_right _ (by omega))
theorem den_ne (q:Rat):(q.den:Int)≠0:=by have:=q.den_pos;omega
theorem plus_eq {p q:Rat}{n:Nat}(hn:n<=9000)(h:Sz n p)(k:Sz n q)(s:S):f_plus [fq p,fq q] s=.ok (fq (p+q)) s:=by
 have e:=(plus_fr (rat_den p) (rat_den q) (rat_cop p) (rat_cop q)).symm.trans (fr_add p q)
 have e1:=congrArg Prod.fst e
 have e2:=congrArg Prod.snd e
 dsimp only at e1 e2
 have g1:ig (p.den:Int) (q.den:Int)≠0:=ig_ne (den_ne q)
 have f1:Fit n (ig (p.den:Int) (q.den:Int)):=fit_ig_r (den_ne q) k.b
 have fd:=fit_fdiv (ig_r (p.den:Int) (q.den:Int)) g1 k.b
 have fb:=fit_fdiv (ig_l (p.den:Int) (q.den:Int)) g1 h.b
 have g2:ig (p.num * (q.den:Int).fdiv (ig (p.den:Int) (q.den:Int))+q.num * (p.den:Int).fdiv (ig (p.den:Int) (q.den:Int))) (ig (p.den:Int) (q.den:Int))≠0:=ig_ne g1
 have f2:Fit n (ig (p.num * (q.den:Int).fdiv (ig (p.den:Int) (q.den:Int))+q.num * (p.den:Int).fdiv (ig (p.den:Int) (q.den:Int))) (ig (p.den:Int) (q.den:Int))):=fit_ig_r g1 f1
 have fb2:Big ((p.den:Int).fdiv (ig (p.den:Int) (q.den:Int))):=big_of fb (by omega)
 have d1:ig (p.num * (q.den:Int).fdiv (ig (p.den:Int) (q.den:Int))+q.num * (p.den:Int).fdiv (ig (p.den:Int) (q.den:Int))) (ig (p.den:Int) (q.den:Int)) ∣ (q.den:Int):=Int.dvd_trans (ig_r _ _) (ig_r _ _)
 have fq2:Big ((q.den:Int).fdiv (ig (p.num * (q.den:Int).fdiv (ig (p.den:Int) (q.den:Int))+q.num * (p.den:Int).fdiv (ig (p.den:Int) (q.den:Int))) (ig (p.den:Int) (q.den:Int)))):=big_of (fit_fdiv d1 g2 k.b) (by omega)
 apply R.wp.eq
 unfold f_plus b_plus fq
 simp only[↓WS,↓WE,↓WV,Lq,len_sz,UU,Nat.reduceSub,↓reduceIte,↓wpe (gcd_eq _ _ _)]
 refine⟨⟨g1,mid_of f1 (by omega)⟩,⟨big_of h.a (by omega),big_of fd (by omega)⟩,⟨g1,mid_of f1 (by omega)⟩,⟨big_of k.a (by omega),fb2⟩,⟨g2,mid_of f2 (by omega)⟩,⟨g1,mid_of f1 (by omega)⟩,⟨g2,mid_of f2 (by omega)⟩,⟨fb2,fq2⟩,?_⟩
 rw[e1,e2]
theorem neg_den (q:Rat):(-q).den=q.den:=rfl
theorem taken_eq {p q:Rat}{n:Nat}(hn:n<=9000)(h:Sz n p)(k:Sz n q)(s:S):f_taken_from [fq p,fq q] s=.ok (fq (q - p)) s:=by
 have e:=plus_eq hn k h.neg s
 have e2:q+-p=q - p:=by grind
 rw[e2]at e
 apply R.wp.eq
 unfold f_taken_from b_taken_from
 unfold fq at e ⊢
 rw[Rat.neg_num,neg_den]at e
 simp only[↓WS,↓WE,↓WV,Lq,len_sz,UU,Nat.reduceSub,↓reduceIte,↓wpe e]
def sumQ:List Rat->Rat
 | []=>0
 | q :: r=>q+sumQ r
theorem k_nothing:k_NOTHING=fq 0:=rfl
def SumOk (n:Nat):Rat->List Rat->Prop
 | a,[]=>Sz n a
 | a,q :: r=>Sz n a/\Sz n q/\SumOk n (a+q) r
inductive Wlk (s:S):AV->List AV->Gd->Prop
 | tup (xs:List AV):Wlk s (.tup xs) xs []
 | ref {i:Nat}{xs:List AV}(h:lstO s i=some xs):Wlk s (.ref i) xs [(i,xs)]
theorem Wlk.ok {s:S}{v:AV}{xs:List AV}{gs:Gd}(h:Wlk s v xs gs):gOk gs s:=by
 cases h with
 | tup=>intro p hp;cases hp
 | ref h=>intro p hp;cases hp with
  | head=>exact h
  | tail _ hp=>cases hp
theorem Wlk.src {s:S}{v:AV}{xs:List AV}{gs:Gd}(h:Wlk s v xs gs):walkO v s=.ok (xs,gs) s:=by
 cases h with
 | tup=>rfl
 | ref h=>show need (lstO s _) _=_;rw[h];rfl
theorem sum_eq {n:Nat}(hn:n<=9000){s:S}{v:AV}{l:List Rat}{gs:Gd}(w:Wlk s v (l.map fq) gs) (h:SumOk n 0 l):f_sum_of [v] s=.ok (fq (sumQ l)) s:=by
 apply R.wp.eq
 unfold f_sum_of b_sum_of
 simp only[↓WS,↓WE,↓WV,Lq,len_sz,UU,Nat.reduceSub,↓reduceIte,k_nothing,↓wpe w.src]
 refine for_wp (λ xs env st=>st=s/\∃ a r x,xs=r.map fq/\env=[some v,some (fq a),x]/\SumOk n a r/\a+sumQ r=sumQ l) ?_ ?_ ?_ _ _ _ ⟨rfl,0,l,none,rfl,rfl,h,Rat.zero_add _⟩
 ·rintro _ _ st ⟨rfl,_⟩;exact w.ok
 ·rintro env st ⟨rfl,a,r,x,e,rfl,h1,h2⟩
  cases r with
  | cons=>cases e
  | nil=>
   walk_at "w"
   rw[<-h2,show a+sumQ []=a from Rat.add_zero a]
 ·rintro y r env st ⟨rfl,a,r',x,e,rfl,h1,h2⟩
  cases r' with
  | nil=>cases e
  | cons q r'=>
   cases e
   simp only[↓WS,↓WE,↓WV,Lq,len_sz,UU,Nat.reduceSub,↓reduceIte,↓wpe (plus_eq hn h1.1 h1.2.1 _)]
   exact⟨a+q,r',_,rfl,rfl,h1.2.2,by rw[<-h2];show a+q+sumQ r'=a+(q+sumQ r');grind⟩
inductive Rw where
 | of (n:Str) (q:Rat)|steps (n:Str) (us:List (Int × Rat)) (z:Rat)|left (n:Str) (q:Rat)|len (n:Str) (k:Int)
def stAt (u:Int)(z:Rat):List (Int × Rat)->Rat
 | []=>z
 | p :: r=>if u < p.1 then p.2 else stAt u z r
def wholeSh (u:Int):List Rw->List (Str × Rat)
 | []=>[]
 | .of n q :: r=>(n,q) :: wholeSh u r
 | .steps n us z :: r=>(n,stAt u z us) :: wholeSh u r
 | .left _ _ :: r=>wholeSh u r
 | .len _ _ :: r=>wholeSh u r
theorem lst_new (s:S)(xs:List AV):lstO (s++[.lst xs]) s.length=some xs:=by
 unfold lstO;simp
end Ro
namespace Mm
open PySem L2
mutual
theorem AV.low.mono {b c:Nat}(h:b<=c):∀ {v:AV},v.low b=true->v.low c=true
 | .ref i,k=>by simp only[AV.low,decide_eq_true_eq]at k ⊢;omega
 | .tup xs,k=>by simp only[AV.low]at k ⊢;exact lowL.mono h k
 | .sq xs,k=>by simp only[AV.low]at k ⊢;exact lowL.mono h k
 | .non,_=>by simp only[AV.low]
 | .bl _,_=>by simp only[AV.low]
 | .int _,_=>by simp only[AV.low]
 | .str _,_=>by simp only[AV.low]
theorem lowL.mono {b c:Nat}(h:b<=c):∀ {l:List AV},lowL b l=true->lowL c l=true
 | [],_=>by simp only[lowL]
 | v :: r,k=>by
  simp only[lowL,Bool.and_eq_true]at k ⊢
  exact⟨AV.low.mono h k.1,lowL.mono h k.2⟩
end
theorem AO.low.mono {b c:Nat}(h:b<=c){o:AO}(k:o.low b=true):o.low c=true:=by
 cases o<;>first|exact lowL.mono h k|rfl
def Cl (s:S):Prop:=s.all (AO.low s.length)=true
theorem Cl.add {s e:S}(h:Cl s)(k:e.all (AO.low (s.length+e.length))=true):Cl (s++e):=by
 unfold Cl at *
 rw[List.all_append,List.length_append,k,Bool.and_true]
 rw[List.all_eq_true]at h ⊢
 exact λ o ho=>AO.low.mono (by omega) (h o ho)
theorem Cl.set {s:S}{i:Nat}{o:AO}(h:Cl s)(k:o.low s.length=true):Cl (s.set i o):=by
 unfold Cl at *
 rw[List.length_set]
 rw[List.all_eq_true]at h ⊢
 intro x hx
 rcases List.mem_or_eq_of_mem_set hx with hx|rfl
 ·exact h x hx
 ·exact k
end Mm
namespace Ro
open PySem L2 Mm
end Ro
namespace Mm
open PySem L2
end Mm
namespace Ro
open PySem L2 Mm
theorem eq_fq (s:S)(p q:Rat):eqAV s (fq p) (fq q)=some (decide (p=q)):=by
 have e1:∀ p:Rat,toD 20 s (fq p)=some (.tup [.int p.num,.int p.den]):=λ p=>by simp[fq,toD]
 unfold eqAV
 simp only[fq]
 have e1':=e1 p
 have e2':=e1 q
 unfold fq at e1' e2'
 rw[e1',e2']
 dsimp only
 rw[if_pos (show depL [Dt.int p.num,Dt.int p.den]<=20 by simp[depL,Dt.dep])]
 simp only[eqDL,eqD]
 congr 1
 by_cases h:p=q
 ·subst h;simp
 ·rw[decide_eq_false h]
  cases h1:(p.num == q.num)<;>cases h2:((p.den:Int) == (q.den:Int))<;>try rfl
  have h3:(p.den:Int)=q.den:=by simpa using h2
  exact(h (Rat.ext (by simpa using h1) (by omega))).elim
theorem low_loop (A B C:Option AV):∀ (n:Nat) (x y:Int) (s:S),0<=x->0<=y->y.natAbs < n->
  whl (cB (mBin opGt (mv 4) (mc (.int 0)))) (sPar 3 4 (pCons (mv 4) (pCons (mBin opMod (mv 3) (mv 4)) pNil))) n [A,B,C,some (.int x),some (.int y)] s=.nx [A,B,C,some (.int (ig x y)),some (.int 0)] s
 | 0,_,_,_,_,_,h=>absurd h (Nat.not_lt_zero _)
 | n+1,x,y,s,hx,hy,h=>by
  unfold whl
  have e:cB (mBin opGt (mv 4) (mc (.int 0))) [A,B,C,some (.int x),some (.int y)] s=.ok (decide (0 < y)) s:=rfl
  rw[e,bindS_ok]
  by_cases h0:y=0
  ·subst h0
   rw[if_neg (by simp)]
   rw[show ig x 0=x by show((Int.gcd x 0:Nat):Int)=x;rw[Int.gcd_zero_right];omega]
  ·have hy1:0 < y:=by omega
   obtain⟨m1,m2⟩:=fmod_nn hx hy1
   rw[if_pos (by simpa using hy1)]
   have e2:sPar 3 4 (pCons (mv 4) (pCons (mBin opMod (mv 3) (mv 4)) pNil)) [A,B,C,some (.int x),some (.int y)] s=.nx [A,B,C,some (.int y),some (.int (x.fmod y))] s:=by
    have e3:opMod (.int x) (.int y) s=.ok (.int (x.fmod y)) s:=if_pos h0
    show((opMod (.int x) (.int y) s).bind _ |>.bind _).bindS _=_
    rw[e3];rfl
   rw[e2]
   show whl _ _ n _ s=_
   rw[low_loop A B C n y (x.fmod y) s hy m1 (by omega),ig_fmod hy1]
theorem fuelL_eq (A B C X:Option AV)(y:Int):fuelL [A,B,C,X,some (.int y)]=y.natAbs+1:=rfl
theorem lowest_eq {a b:Int}(s:S)(h:b≠0)(fb:Fit 9000 b)(fa:Fit 60000000 a):f__law_lowest [.int a,.int b] s=.ok (fq (Rat.divInt a b)) s:=by
 have e:=(low_fr a b h).trans (fr_rat (t:=a) h)
 have e1:((if b < 0 then -1 else 1) * a).fdiv (ig a b)=(Rat.divInt a b).num:=congrArg Prod.fst e
 have e2:((if b < 0 then -1 else 1) * b).fdiv (ig a b)=((Rat.divInt a b).den:Int):=congrArg Prod.snd e
 have g:=ig_ne (a:=a) h
 have fg:Mid (ig a b):=mid_of (fit_ig_r h fb) (Nat.le_refl _)
 have bs:∀ c:Prop,[Decidable c]->Big (if c then -1 else 1):=λ c _=>by
  split
  ·exact big_of (n:=1) (by show(-1:Int).natAbs < 2 ^ 1;decide) (by decide)
  ·exact big_of (n:=1) (by show(1:Int).natAbs < 2 ^ 1;decide) (by decide)
 have bb:Big b:=⟨fb.mono (by decide)⟩
 have ba:Big a:=⟨fa⟩
 apply R.wp.eq
 unfold f__law_lowest b__law_lowest
 simp only[↓WS,↓WE,↓WV,Lq,len_sz,UU,Nat.reduceSub,↓reduceIte,↓wp_whl,fuelL_eq]
 rw[wpeS (low_loop _ _ _ _ _ _ s (by split<;>omega) (by split<;>omega) (Nat.lt_succ_self _)),ig_abs]
 walk_at "w"
 by_cases c:b < 0
 ·simp only[c,if_true]at e1 e2 ⊢
  have b1:=bs True
  rw[if_pos trivial]at b1
  refine⟨⟨b1,ba⟩,⟨g,fg⟩,⟨b1,bb⟩,⟨g,fg⟩,?_⟩
  rw[e1,e2];rfl
 ·simp only[c,if_false]at e1 e2 ⊢
  have b1:=bs False
  rw[if_neg (λ z=>z)]at b1
  refine⟨⟨b1,ba⟩,⟨g,fg⟩,⟨b1,bb⟩,⟨g,fg⟩,?_⟩
  rw[e1,e2];rfl
theorem ltimes_eq {a b c d:Int}{n:Nat}(hn:n<=4400)(s:S)(hb:b≠0)(hd:d≠0)(fa:Fit n a)(fb:Fit n b)(fc:Fit n c)(fd:Fit n d):f__law_times [.tup [.int a,.int b],.tup [.int c,.int d]] s=.ok (fq (Rat.divInt a b * Rat.divInt c d)) s:=by
 have e:=lowest_eq (a:=a * c) (b:=b * d) s (Int.mul_ne_zero hb hd) ((fb.mul fd).mono (by omega)) ((fa.mul fc).mono (by omega))
 apply R.wp.eq
 unfold f__law_times b__law_times
 simp only[↓WS,↓WE,↓WV,Lq,len_sz,UU,Nat.reduceSub,↓reduceIte,↓wpe e]
 refine⟨⟨big_of fa (by omega),big_of fc (by omega)⟩,⟨big_of fb (by omega),big_of fd (by omega)⟩,?_⟩
 rw[Rat.divInt_mul_divInt]
theorem lsum_eq {n:Nat}(hn:n<=4400){s:S}{v:AV}{l:List Rat}{gs:Gd}(w:Wlk s v (l.map fq) gs) (h:SumOk n 0 l):f__law_sum [v] s=.ok (fq (sumQ l)) s:=by
 apply R.wp.eq
 unfold f__law_sum b__law_sum
 simp only[↓WS,↓WE,↓WV,Lq,len_sz,UU,Nat.reduceSub,↓reduceIte,↓wpe w.src]
 refine for_wp (λ xs env st=>st=s/\∃ a r x y,xs=r.map fq/\env=[some v,some (.int (Rat.num a)),some (.int a.den),x,y]/\SumOk n a r/\a+sumQ r=sumQ l) ?_ ?_ ?_ _ _ _ ⟨rfl,0,l,none,none,rfl,rfl,h,Rat.zero_add _⟩
 ·rintro _ _ st ⟨rfl,_⟩;exact w.ok
 ·rintro env st ⟨rfl,a,r,x,y,e,rfl,h1,h2⟩
  cases r with
  | cons=>cases e
  | nil=>
   walk_at "w"
   rw[<-h2,show a+sumQ []=a from Rat.add_zero a];rfl
 ·rintro y r env st ⟨rfl,a,r',x,y,e,rfl,h1,h2⟩
  cases r' with
  | nil=>cases e
  | cons q r'=>
   cases e
   obtain⟨k1,k2,k3⟩:=h1
   have e:=lowest_eq (a:=a.num * q.den+q.num * a.den) (b:=a.den * q.den) st (Int.mul_ne_zero (den_ne a) (den_ne q)) ((k1.b.mul k2.b).mono (by omega)) (((k1.a.mul k2.b).add (k2.a.mul k1.b)).mono (by omega))
   rw[<-add_rat]at e
   rw[show fq q=.tup [.int q.num,.int q.den] from rfl]
   simp only[↓WS,↓WE,↓WV,Lq,len_sz,UU,Nat.reduceSub,↓reduceIte,↓wpe e]
   refine⟨⟨big_of k1.a (by omega),big_of k2.b (by omega)⟩,⟨big_of k2.a (by omega),big_of k1.b (by omega)⟩,⟨big_of k1.b (by omega),big_of k2.b (by omega)⟩,?_⟩
   rw[show fq (a+q)=.tup [.int (a+q).num,.int (a+q).den] from rfl]
   walk_at "w"
   exact⟨a+q,r',_,_,rfl,rfl,k3,by rw[<-h2];show a+q+sumQ r'=a+(q+sumQ r');grind⟩
end Ro
namespace Mm
open PySem L2
theorem wp_gCons (a:Mt)(r:Mts)(v:AV)(w:List AV)(env:En)(s:S)(N:En->S->Prop)(T:AV->S->Prop):(gCons' a r (v :: w) env s).wp N T=(a v env s).wp (λ e s1=>(r w e s1).wp N T) T:=by
 show(match a v env s with|.nx e s1=>r w e s1|q=>q).wp N _=_
 cases a v env s<;>rfl
theorem wp_gSubL (o i:Ev)(v:AV)(env:En)(s:S)(N:En->S->Prop)(T:AV->S->Prop):(gSubL o i v env s).wp N T=(o env s).wp λ a s1=>(i env s1).wp λ b s2=>(match a,b with
 | .ref k,.int j=>match lstO s2 k with
  | some xs=>match ixN xs.length j with
   | some n=>RS.nx env (s2.set k (.lst (xs.set n v)))
   | none=>.bad
  | none=>.bad
 | _,_=>.bad).wp N T:=by
 unfold gSubL;rw[wp_bindS];congr 1;funext a s1;rw[wp_bindS]
 try rfl
end Mm
namespace Ro
open PySem L2 Mm
theorem kneA:¬ ((.inr "cells":Key)=.inr "turn"):=λ z=>kne (Sum.inr.inj z)
def drD (c:Nat)(t:Int):List (Key × AV):=[(.inr "cells",.ref c),(.inr "turn",.int t)]
theorem dr_cells (c:Nat)(t:Int):valA (drD c t) (.inr "cells")=some (.ref c):=if_pos rfl
theorem dr_turn (c:Nat)(t:Int):valA (drD c t) (.inr "turn")=some (.int t):=by
 unfold drD valA
 rw[if_neg kneA]
 exact if_pos rfl
theorem dr_put (c:Nat)(t u:Int):putA (drD c t) (.inr "turn") (.int u)=drD c u:=by
 unfold putA drD
 rw[if_pos (by simp)]
 simp only[List.map_cons,List.map_nil,if_neg kneA,if_true]
structure Dr (c d n:Nat)(s:S):Prop where
 ex:∃ (t:Int) (cells:List Int),s[d]? = some (.dK (drD c t))/\s[c]? = some (.lst (cells.map AV.int))/\cells≠[]/\0<=t/\t<=n
 cl:Cl s
structure Kp (c d:Nat)(s s':S):Prop where
 len:s'.length=s.length
 get:∀ i,i≠c->i≠d->s'[i]? = s[i]?
theorem Kp.refl (c d:Nat)(s:S):Kp c d s s:=⟨rfl,λ _ _ _=>rfl⟩
theorem Kp.trans {c d:Nat}{s s' s'':S}(h:Kp c d s s')(k:Kp c d s' s''):Kp c d s s'':=⟨k.len.trans h.len,λ i h1 h2=>(k.get i h1 h2).trans (h.get i h1 h2)⟩
theorem Dr.mono {c d n m:Nat}{s:S}(h:Dr c d n s)(k:n<=m):Dr c d m s:=by
 obtain⟨⟨t,cells,h1,h2,h3,h4,h5⟩,cl⟩:=h
 exact⟨⟨t,cells,h1,h2,h3,h4,by omega⟩,cl⟩
theorem Dr.ne {c d n:Nat}{s:S}(h:Dr c d n s):c≠d:=by
 obtain⟨⟨t,cells,h1,h2,_⟩,_⟩:=h
 rintro rfl
 rw[h1]at h2;cases h2
theorem Dr.ltc {c d n:Nat}{s:S}(h:Dr c d n s):c < s.length:=by
 obtain⟨⟨t,cells,h1,h2,_⟩,_⟩:=h
 exact(List.getElem?_eq_some_iff.mp h2).1
theorem Dr.ltd {c d n:Nat}{s:S}(h:Dr c d n s):d < s.length:=by
 obtain⟨⟨t,cells,h1,h2,_⟩,_⟩:=h
 exact(List.getElem?_eq_some_iff.mp h1).1
theorem Dr.app {c d n:Nat}{s e:S}(h:Dr c d n s)(k:Cl (s++e)):Dr c d n (s++e):=by
 have l1:=h.ltc
 have l2:=h.ltd
 obtain⟨⟨t,cells,h1,h2,h3⟩,cl⟩:=h
 exact⟨⟨t,cells,by rw[List.getElem?_append_left l2];exact h1,by rw[List.getElem?_append_left l1];exact h2,h3⟩,k⟩
theorem Dr.set {c d n i:Nat}{s:S}{o:AO}(h:Dr c d n s)(h1:i≠c)(h2:i≠d)(k:o.low s.length=true):Dr c d n (s.set i o):=by
 obtain⟨⟨t,cells,k1,k2,k3⟩,cl⟩:=h
 exact⟨⟨t,cells,by rw[List.getElem?_set_ne h2];exact k1,by rw[List.getElem?_set_ne h1];exact k2,k3⟩,cl.set k⟩
theorem low_ints (b:Nat):∀ l:List Int,lowL b (l.map AV.int)=true
 | []=>by simp[lowL]
 | i :: r=>by simp only[List.map_cons,lowL,low_ints b r];simp[AV.low]
theorem fitm {x m:Int}(h:0 < m)(k:m<=2147483648):Fit 31 (x.fmod m):=by
 have h1:=Int.fmod_nonneg_of_pos x h
 have h2:=Int.fmod_lt_of_pos x h
 exact fit_of_lt (by omega) (by omega)
theorem fitI {n:Nat}{i:Int}(h:0<=i)(k:i < 2 ^ n):Fit n i:=fit_of_lt (by omega) k
theorem take_wp {c d n:Nat}{s:S}(D:Dr c d n s)(hn:n<=1000000000){k:Int}(hk:0 < k)(fk:Fit 9000 k) :
  (f__law_take [.ref d,.int k] s).wp λ v s'=>∃ r,v=.int r/\0<=r/\r < k/\Dr c d (n+1) s'/\Kp c d s s':=by
 have lc:=D.ltc
 have ld:=D.ltd
 have ne:=D.ne
 obtain⟨⟨t,cells,h1,h2,h3,h4,h5⟩,cl⟩:=D
 have e0:dKO s d=some (drD c t):=by unfold dKO;rw[h1]
 have g1:opDget (.ref d) (.str "turn") s=.ok (.int t) s:=by
  show(need (dKO s d) λ kvs=>need (keyO (.str "turn")) λ k=>need (valA kvs k) λ v=>R.ok v s)=_
  rw[e0,need_some]
  rw[show keyO (.str "turn")=some (.inr "turn") from rfl,need_some,dr_turn];rfl
 let s1:=s.set d (.dK (drD c (t+1)))
 have p1:∀ env,putD (.int (t+1)) (.ref d) (.str "turn") env s=.nx env s1:=λ env=>by
  show(match dKO s d,keyO (.str "turn") with
   | some kvs,some k=>if kvs.length < sizeLine then RS.nx env (s.set d (.dK (putA kvs k (.int (t+1))))) else .bad
   | _,_=>.bad)=_
  rw[e0]
  show(if (drD c t).length < sizeLine then RS.nx env (s.set d (.dK (putA (drD c t) (.inr "turn") (.int (t+1))))) else .bad)=_
  rw[if_pos (small1000 (by show(2:Nat)<=1000;omega)),dr_put]
 have e1:s1[d]? = some (.dK (drD c (t+1))):=List.getElem?_set_self ld
 have e2:s1[c]? = some (.lst (cells.map AV.int)):=by show(s.set d _)[c]? = _;rw[List.getElem?_set_ne (Ne.symm ne)];exact h2
 have l1:lstO s1 c=some (cells.map AV.int):=lstO_of e2
 have cl1:Cl s1:=cl.set (by simp[AO.low,drD,lowL,AV.low,lc])
 have kp1:Kp c d s s1:=⟨List.length_set,λ i _ hi=>List.getElem?_set_ne (Ne.symm hi)⟩
 have g2:opDget (.ref d) (.str "cells") s1=.ok (.ref c) s1:=by
  show(need (dKO s1 d) λ kvs=>need (keyO (.str "cells")) λ k=>need (valA kvs k) λ v=>R.ok v s1)=_
  rw[show dKO s1 d=some (drD c (t+1)) by unfold dKO;rw[e1],need_some]
  rw[show keyO (.str "cells")=some (.inr "cells") from rfl,need_some,dr_cells];rfl
 have hl0:0 < cells.length:=List.length_pos_iff.mpr h3
 have lenE:opLen [.ref c] s1=.ok (.int cells.length) s1:=by
  show(need (lstO s1 c) λ xs=>R.ok (AV.int xs.length) s1)=_
  rw[l1,need_some,List.length_map]
 have hl1:(0:Int) < cells.length:=by omega
 have j0:=Int.fmod_nonneg_of_pos (t+1) hl1
 have j1:=Int.fmod_lt_of_pos (t+1) hl1
 obtain⟨j,ej⟩:∃ j:Nat,(t+1).fmod cells.length=j:=⟨((t+1).fmod cells.length).toNat,by omega⟩
 have hj:j < cells.length:=by omega
 have ix:atI (cells.map AV.int) (j:Int)=some (.int cells[j]):=atI_nat (by rw[List.getElem?_map,List.getElem?_eq_getElem hj];rfl)
 have ixn:ixN (cells.map AV.int).length (j:Int)=some j:=by
  unfold ixN
  rw[List.length_map,if_pos (by omega),if_pos (by omega)];rfl
 unfold f__law_take b__law_take
 have gE:opIx (.ref c) (.int j) s1=.ok (.int cells[j]) s1:=by
  show(need (lstO s1 c) λ xs=>need (atI xs j) λ v=>R.ok v s1)=_
  rw[l1,need_some,ix];rfl
 have hpow:(10:Int) ^ (18:Int).toNat=1000000000000000000:=pw18
 have T1:Fit 31 (t+1):=fitI (by omega) (by omega)
 simp only[↓WS,↓WE,↓WV,Lq,len_sz,UU,Nat.reduceSub,↓reduceIte,↓wpe g1,↓wpeS (p1 _),↓wpe g2,↓wpe lenE,ej,↓wpe gE,hpow]
 refine⟨by omega,⟨by omega,by omega,by decide⟩,?_⟩
 split
 ·simp only[↓WS,↓WE,↓WV,Lq,len_sz,UU,Nat.reduceSub,↓reduceIte,↓wp_gCons,↓wp_gSubL,↓wpe g2,l1,ixn]
  refine⟨⟨hk,⟨fk⟩⟩,_,rfl,Int.emod_nonneg _ (by omega),Int.emod_lt_of_pos _ hk,⟨⟨t+1,cells.set j (cells[j] / k),?_,?_,?_,by omega,by omega⟩,?_⟩,?_⟩
  ·rw[List.getElem?_set_ne ne];exact e1
  ·rw[List.getElem?_set_self (by show c < s1.length;rw[kp1.len];exact lc),List.map_set]
  ·intro z
   have:=congrArg List.length z
   rw[List.length_set,List.length_nil]at this;omega
  ·refine cl1.set ?_
   rw[<-List.map_set]
   exact low_ints _ _
  ·exact⟨by rw[List.length_set];exact kp1.len,λ i q1 q2=>by rw[List.getElem?_set_ne (Ne.symm q1)];exact kp1.get i q1 q2⟩
 ·have F1:Fit 31 (cells[j].fmod 2147483629):=fitm (by omega) (by omega)
  have c79:Fit 13 (7919:Int):=fitI (by omega) (by omega)
  have c48:Fit 16 (48271:Int):=fitI (by omega) (by omega)
  have c10:Fit 17 (104729:Int):=fitI (by omega) (by omega)
  have c39:Fit 16 (39373:Int):=fitI (by omega) (by omega)
  have F2:=T1.mul T1
  have F3:=F2.mul c79
  have F4:Fit 76 (cells[j].fmod 2147483629+(t+1) * (t+1) * 7919):=Fit.add (n:=75) (F1.mono (by omega)) (F3.mono (by omega))
  have F5:Fit 77 (cells[j].fmod 2147483629+(t+1) * (t+1) * 7919+11):=Fit.add F4 (fitI (by omega) (by omega))
  have F6:∀ x:Int,Fit 49 (x.fmod 2147483587+(t+1) * 104729):=λ x=>Fit.add (n:=48) ((fitm (by omega) (by omega)).mono (by omega)) ((T1.mul c10).mono (by omega))
  have bg:∀ {n:Nat}{i:Int},Fit n i->n<=100->Big i:=λ h k=>big_of h (by omega)
  refine⟨by decide,⟨bg T1 (by omega),bg T1 (by omega)⟩,⟨bg F2 (by omega),bg c79 (by omega)⟩,⟨bg F5 (by omega),bg c48 (by omega)⟩,by decide,⟨bg (fitm (by omega) (by omega)) (by omega),bg (fitm (by omega) (by omega)) (by omega)⟩,by decide,⟨bg T1 (by omega),bg c10 (by omega)⟩,⟨bg (F6 _) (by omega),bg c39 (by omega)⟩,by decide,⟨by decide,mid_of (n:=7) (fitI (by omega) (by omega)) (by omega)⟩,by omega,_,rfl,Int.fmod_nonneg_of_pos _ hk,Int.fmod_lt_of_pos _ hk,⟨⟨t+1,cells,e1,e2,h3,by omega,by omega⟩,cl1⟩,kp1⟩
theorem flat_toD {s:S}{n:Nat}:∀ {v:AV},flatA v=true->∃ d,toD n s v=some d/\d.dep=0
 | .non,_=>⟨.non,by unfold toD;rfl,by simp[Dt.dep]⟩
 | .bl b,_=>⟨.bl b,by unfold toD;rfl,by simp[Dt.dep]⟩
 | .int b,_=>⟨.int b,by unfold toD;rfl,by simp[Dt.dep]⟩
 | .str b,_=>⟨.str b,by unfold toD;rfl,by simp[Dt.dep]⟩
theorem flats_toD {s:S}{n:Nat}:∀ {l:List AV},l.all flatA=true->∃ ds,l.mapM (toD n s)=some ds/\ds.length=l.length/\depL ds=0
 | [],_=>⟨[],rfl,rfl,by simp[depL]⟩
 | v :: r,h=>by
  rw[List.all_cons,Bool.and_eq_true]at h
  obtain⟨d,e1,e2⟩:=flat_toD (s:=s) (n:=n) h.1
  obtain⟨ds,e3,e4,e5⟩:=flats_toD (s:=s) (n:=n) h.2
  exact⟨d :: ds,by rw[List.mapM_cons,e1,e3];rfl,by simp[e4],by simp[depL,e2,e5]⟩
theorem eqAV_nil {s:S}{i j:Nat}{xs:List AV}(h1:lstO s i=some xs)(h2:lstO s j=some [])(hf:xs.all flatA=true):eqAV s (.ref i) (.ref j)=some xs.isEmpty:=by
 obtain⟨ds,e1,e2,e3⟩:=flats_toD (s:=s) (n:=19) hf
 have t1:toD 20 s (.ref i)=some (.lst ds):=by
  simp only[toD,h1,Option.bind_some,e1,Option.map_some]
 have t2:toD 20 s (.ref j)=some (.lst []):=by
  simp only[toD,h2,Option.bind_some,List.mapM_nil];rfl
 unfold eqAV
 simp only
 rw[t1,t2]
 dsimp only
 rw[if_pos (by omega)]
 congr 1
 cases xs with
 | nil=>cases ds with
  | nil=>simp[eqDL]
  | cons=>cases e2
 | cons=>cases ds with
  | nil=>cases e2
  | cons=>simp[eqDL]
theorem flat_ints:∀ l:List Int,(l.map AV.int).all flatA=true
 | []=>rfl
 | i :: r=>by rw[List.map_cons,List.all_cons,flat_ints r];rfl
theorem begin_wp (ns:List Int):(f__law_begin [.sq (ns.map AV.int)] []).wp λ v s'=>∃ c d,v=.ref d/\Dr c d 0 s':=by
 obtain⟨ms,em⟩:∃ ms:List Int,cutA (ns.map AV.int) none (some 63)=ms.map AV.int:=by
  refine⟨cutA ns none (some 63),?_⟩
  unfold cutA;rw[List.length_map,<-List.map_drop,<-List.map_take]
 have e1:opSl (.sq (ns.map AV.int)) none (some 63) []=.ok (.ref 0) [.lst (ms.map AV.int)]:=by
  show R.ok _ ([]++[AO.lst (cutA (ns.map AV.int) none (some 63))])=_
  rw[em];rfl
 have e2:items (.ref 0) [.lst (ms.map AV.int)]=some (ms.map AV.int):=rfl
 have e3:opEq (.ref 1) (.ref 2) [.lst (ms.map AV.int),.lst (ms.map AV.int),.lst []]=.ok (.bl (ms.map AV.int).isEmpty) [.lst (ms.map AV.int),.lst (ms.map AV.int),.lst []]:=by
  unfold opEq;rw[eqAV_nil (xs:=ms.map AV.int) rfl rfl (flat_ints ms)];rfl
 have ed:∀ (env:En) (s:S) (k:Nat) (x:Option AV),mDisp [((mc (.str "cells")),(mv 1)),((mc (.str "turn")),(mc (.int 0)))] [x,some (.ref k)] s=.ok (.ref s.length) (s++[.dK (drD k 0)]):=by
  intro env s k x
  unfold mDisp prs prs prs
  simp only[mc,mv,bind_ok,Lq,keysO,keyO,Option.bind_some,Option.map_some,need_some]
  rw[if_pos (by show(2:Nat)<=15;omega)]
  congr 1
 unfold f__law_begin b__law_begin
 simp only[↓WS,↓WE,↓WV,Lq,len_sz,UU,Nat.reduceSub,↓reduceIte,↓wpe e1,e2,qList,List.length_cons,List.length_nil,Nat.reduceAdd,List.cons_append,List.nil_append,↓wpe e3,List.take_succ_cons,List.take_zero,Nat.zero_le,show(1<=sizeLine)=True from eq_true (szl (by omega))]
 cases ms with
 | nil=>
  simp only[List.map_nil,List.isEmpty_nil,if_true,↓wpe (ed [] _ _ _)]
  refine⟨2,_,rfl,⟨⟨0,[7],rfl,rfl,by simp,by omega,by omega⟩,rfl⟩⟩
 | cons m r=>
  simp only[List.map_cons,List.isEmpty_cons,Bool.false_eq_true,if_false,↓wpe (ed [] _ _ _)]
  refine⟨1,_,rfl,⟨⟨0,m :: r,rfl,rfl,by simp,by omega,by omega⟩,?_⟩⟩
  simp[Cl,AO.low,lowL,AV.low,low_ints,drD]
theorem fit9 {k:Int}(h:0 < k)(l:k < 1048576):Fit 9000 k:=(fitI (n:=20) (by omega) (by omega)).mono (by omega)
theorem wp_srcR (m:Ev)(env:En)(s:S)(Q:List AV × Gd->S->Prop):(srcR (pCons m pNil) env s).wp Q=(m env s).wp λ v s1=>match v with|.int j=>(-(2 ^ 62)<=j/\j < 2 ^ 62)/\Q (rngA 0 j.toNat,[]) s1|_=>False:=by
 unfold srcR pCons pNil
 simp only[wp_bind,wp_ok]
 congr 1
 funext v s1
 cases v<;>first|rfl|exact wp_if _ _ _
structure Gk (c d:Nat)(s s':S):Prop where
 len:s.length<=s'.length
 get:∀ i,i < s.length->i≠c->i≠d->s'[i]? = s[i]?
theorem Kp.gk {c d:Nat}{s s':S}(h:Kp c d s s'):Gk c d s s':=⟨by rw[h.len];exact Nat.le_refl _,λ i _ h1 h2=>h.get i h1 h2⟩
theorem Gk.refl (c d:Nat)(s:S):Gk c d s s:=(Kp.refl c d s).gk
theorem Gk.app (c d:Nat)(s e:S):Gk c d s (s++e):=⟨by simp,λ i hi _ _=>List.getElem?_append_left hi⟩
theorem Gk.trans {c d:Nat}{s s' s'':S}(h:Gk c d s s')(k:Gk c d s' s''):Gk c d s s'':=⟨Nat.le_trans h.len k.len,λ i hi h1 h2=>(k.get i (Nat.lt_of_lt_of_le hi h.len) h1 h2).trans (h.get i hi h1 h2)⟩
theorem Gk.lst {c d n i:Nat}{s s':S}{xs:List AV}(h:Gk c d s s')(h1:i≠c)(h2:i≠d)(k:lstO s i=some xs):lstO s' i=some xs:=by
 have e:=lstO_inv k
 exact lstO_of ((h.get i (List.getElem?_eq_some_iff.mp e).1 h1 h2).trans e)
theorem Gk.set {c d i:Nat}{s s':S}{o:AO}(h:Gk c d s s')(hi:s.length<=i):Gk c d s (s'.set i o):=⟨by rw[List.length_set];exact h.len,λ j hj h1 h2=>by rw[List.getElem?_set_ne (by omega)];exact h.get j hj h1 h2⟩
theorem Gk.cut {c d n m:Nat}{s s':S}(h:Gk c d s s')(D:Dr c d n s)(D':Dr c d m s'):Dr c d m (s'.take s.length)/\Kp c d s (s'.take s.length)/\(s'.take s.length).all (AO.low s.length)=true:=by
 have lc:=D.ltc
 have ld:=D.ltd
 have el:(s'.take s.length).length=s.length:=by rw[List.length_take];have:=h.len;omega
 have eg:∀ i,i < s.length->(s'.take s.length)[i]? = s'[i]?:=λ i hi=>List.getElem?_take_of_lt hi
 have cl:=D.cl
 obtain⟨⟨t,cells,h1,h2,h3,h4,h5⟩,cl'⟩:=D'
 have all:(s'.take s.length).all (AO.low s.length)=true:=by
  rw[List.all_eq_true]
  intro o ho
  obtain⟨i,hi,e⟩:=List.mem_iff_getElem.mp ho
  rw[el]at hi
  have e':(s'.take s.length)[i]? = some o:=by rw[List.getElem?_eq_getElem (by rw[el];exact hi)];rw[e]
  rw[eg i hi]at e'
  by_cases c1:i=c
  ·subst c1;rw[h2]at e';cases e';exact low_ints _ _
  by_cases c2:i=d
  ·subst c2;rw[h1]at e';cases e';simp[AO.low,drD,lowL,AV.low,lc]
  rw[h.get i hi c1 c2]at e'
  have:=List.all_eq_true.mp (show s.all (AO.low s.length)=true from cl) o (List.mem_of_getElem? e')
  exact this
 refine⟨⟨⟨t,cells,by rw[eg d ld];exact h1,by rw[eg c lc];exact h2,h3,h4,h5⟩,?_⟩,⟨el,λ i c1 c2=>?_⟩,all⟩
 ·unfold Cl;rw[el];exact all
 ·by_cases hi:i < s.length
  ·rw[eg i hi];exact h.get i hi c1 c2
  ·rw[List.getElem?_eq_none (by rw[el];omega),List.getElem?_eq_none (by omega)]
theorem ix_at {s:S}{i:Nat}{xs:List AV}{j:Int}(h:lstO s i=some xs)(h0:0<=j)(h1:j < xs.length):∃ v,v∈xs/\opIx (.ref i) (.int j) s=.ok v s:=by
 obtain⟨n,rfl⟩:∃ n:Nat,j=n:=⟨j.toNat,by omega⟩
 have hn:n < xs.length:=by omega
 refine⟨xs[n],List.getElem_mem hn,?_⟩
 show(need (lstO s i) λ xs=>need (atI xs n) λ v=>R.ok v s)=_
 rw[h,need_some,atI_nat (List.getElem?_eq_getElem hn)];rfl
theorem div_nn {j b:Int}(h1:0<=j)(h3:0 < b):0<=Rat.divInt j b:=(Rat.divInt_nonneg_iff_of_pos_right h3).mpr h1
theorem div_add {a c b:Int}(h:b≠0):Rat.divInt a b+Rat.divInt c b=Rat.divInt (a+c) b:=by
 rw[Rat.divInt_add_divInt _ _ h h,<-Int.add_mul,Rat.divInt_mul_right h]
def IsP (w:Int)(q:Rat):Prop:=∃ j,1<=j/\j<=w/\q=Rat.divInt j 60
def RwOk (w:Int):Rw->Prop
 | .of _ q=>1<=w/\w<=60/\IsP w q
 | .steps _ us z=>1<=w/\w<=60/\us.length<=3/\(∀ p∈us,IsP w p.2)/\IsP w z
 | .left _ q=>w=0/\0<=q/\q<=1/\Sz 6 q
 | .len _ k=>w=0/\1<=k/\k<=1000
theorem pick_wp {c d n:Nat}{s:S}(D:Dr c d n s)(hn:n<=900001000){xs:List AV}{m:Int}(hm:m=xs.length)(hm0:0 < m)(hm1:m<=10){P:Int->Prop}(hx:∀ v∈xs,∃ b,v=.int b/\P b) :
  (f__law_take [.ref d,.int m] (s++[.lst xs])).wp λ v s2=>∃ b,opIx (.ref s.length) v s2=.ok (.int b) s2/\P b/\(s2.take s.length).all (AO.low s.length)=true/\Dr c d (n+1) (s2.take s.length)/\Kp c d s (s2.take s.length):=by
 have lx:∀ b,lowL b xs=true:=λ b=>by
  clear hm hm0 hm1
  induction xs with
  | nil=>simp[lowL]
  | cons v r ih=>
   obtain⟨i,rfl,_⟩:=hx v (.head _)
   simp only[lowL,ih λ v hv=>hx v (.tail _ hv)];simp[AV.low]
 have D1':=D.app (e:=[.lst xs]) (D.cl.add (by simp[AO.low,lx]))
 refine(take_wp D1' (by omega) (by omega) (fit9 (by omega) (by omega))).mono ?_
 rintro _ s2 ⟨j,rfl,j0,j1,D2,K2⟩
 obtain⟨v,hv,ev⟩:=ix_at (s:=s2) (i:=s.length) (j:=j) (K2.gk.lst (n:=0) (by have:=D.ltc;omega) (by have:=D.ltd;omega) (lst_new s _)) j0 (by omega)
 obtain⟨b,rfl,hb⟩:=hx v hv
 obtain⟨D3,K3,al⟩:=((Gk.app c d s _).trans K2.gk).cut D D2
 exact⟨b,ev,hb,al,D3,K3⟩
theorem isL_at {s:S}{i:Nat}{xs:List AV}(h:lstO s i=some xs):(isTy "list" (.ref i) s).isSome=true:=by
 show((lstO s i).map λ _=>()).isSome=true
 rw[h];rfl
theorem lst_set {s:S}{i:Nat}{xs ys:List AV}(h:lstO s i=some xs):lstO (s.set i (.lst ys)) i=some ys:=by
 refine lstO_of (List.getElem?_set_self ?_)
 exact(List.getElem?_eq_some_iff.mp (lstO_inv h)).1
def txt24:Str:="b aa zebra c quartzes ab m knows d mm likes z ba abcdefgh y zz e x f g hh jj kk pave"
open PySem.Builtin.Str in
def nm24:List Str:=partsBetween txt24 (occurrences txt24 " " 0 txt24.length (txt24.length+1)) (" ":Str).length
theorem nm24_len:nm24.length=24:=by decide +kernel
open PySem.Builtin.Str in
theorem nm24_ok:(decide (txt24.length < (" ":Str).length) || decide (PySem.Builtin.Str.strKind txt24 < PySem.Builtin.Str.strKind (" ":Str)))=false/\((" ":Str).length == 0)=false/\(occurrences txt24 " " 0 txt24.length (txt24.length+1)).isEmpty=false/\txt24.length<=1000/\(partsBetween txt24 (occurrences txt24 " " 0 txt24.length (txt24.length+1)) (" ":Str).length).length<=1000:=by decide +kernel
theorem split24 (s:S):opSplit (.str "b aa zebra c quartzes ab m knows d mm likes z ba abcdefgh y zz e x f g hh jj kk pave") [.str " "] s=.ok (nm24.map AV.str) s:=if_pos nm24_ok
theorem low_strs (b:Nat):∀ l:List Str,lowL b (l.map AV.str)=true
 | []=>by simp[lowL]
 | i :: r=>by simp only[List.map_cons,lowL,low_strs b r];simp[AV.low]
theorem len_at {s:S}{i:Nat}{xs:List AV}(h:lstO s i=some xs):opLen [.ref i] s=.ok (.int xs.length) s:=by
 show(need (lstO s i) λ xs=>R.ok (AV.int xs.length) s)=_
 rw[h];rfl
theorem er_map {α β:Type}(f:α->β):∀ (l:List α) (m:Nat),(l.map f).eraseIdx m=(l.eraseIdx m).map f
 | [],_=>rfl
 | a :: r,0=>rfl
 | a :: r,m+1=>by show f a :: (r.map f).eraseIdx m=f a :: (r.eraseIdx m).map f;rw[er_map f r m]
def nL:List Rw->Nat
 | []=>0
 | .left _ _ :: r=>nL r+1
 | .of _ _ :: r=>nL r
 | .steps _ _ _ :: r=>nL r
 | .len _ _ :: r=>nL r
structure Good (rs:List Rw):Prop where
 a:∀ r∈rs,∃ w,RwOk w r
 s:∀ u,sumQ ((wholeSh u rs).map (·.2))<=1
 l:rs.length<=8
 n:nL rs<=3
theorem TG:(isTag "int" "list"=false)/\(isTag "int" "tuple"=false)/\(isTag "int" "str"=false)/\(isTag "int" "int"=true)/\(isTag "int" "bool"=false)/\
  (isTag "str" "list"=false)/\(isTag "str" "tuple"=false)/\(isTag "str" "str"=true)/\
  (isTag "tuple" "list"=false)/\(isTag "tuple" "tuple"=true)/\(isTag "list" "list"=true)/\(isTag "list" "tuple"=false):=by
 refine⟨?_,?_,?_,?_,?_,?_,?_,?_,?_,?_,?_,?_⟩<;>decide +kernel
def leafOk (s:S)(v:AV):Prop:=(∃ t,tagOf v s=some t)/\match v with
 | .int i=>Fit 900 i
 | .str t=>t.cps.all (· < 128)=true/\t.length<=sizeLine
 | _=>True
def okD:Nat->S->AV->Prop
 | 0,s,v=>leafOk s v
 | n+1,s,v=>leafOk s v/\∀ xs,v=.tup xs->xs.length<=sizeLine/\∀ x∈xs,okD n s x
theorem okD.leaf:∀ {n:Nat}{s:S}{v:AV},okD n s v->leafOk s v
 | 0,_,_,h=>h
 | _+1,_,_,h=>h.1
def isNum:AV->Bool
 | .int _=>true
 | _=>false
def isFr:AV->Bool
 | .tup [.int a,.int b]=>decide (1<=b) && decide (ig a b=1)
 | _=>false
def smC (c:Nat):Bool:=decide (97<=c) && decide (c<=122)
def isNm:AV->Bool
 | .str t=>(decide (1<=t.length) && decide (t.length<=8)) && t.cps.toList.all smC
 | _=>false
def isNN:AV->Bool
 | .int i=>decide (0<=i)
 | _=>false
def isRw:AV->Bool
 | .tup [p,e,f,w,d,r,k,g,a]=>isNm p && [e,f,r,k].all isFr && [w,d,g,a].all isNN
 | _=>false
theorem tag_ref {i:Nat}{s:S}{t:String}(h:tagOf (.ref i) s=some t):t="list"∨t="dict":=by
 simp only[tagOf]at h
 split at h<;>first|(cases h;simp)|cases h
theorem isi_eq {v:AV}{s:S}{t n:String}(h:tagOf v s=some t):opIsi n v s=.ok (.bl (isTag t n)) s:=by unfold opIsi;rw[h];rfl
theorem isnum_wp {v:AV}{s:S}(h:∃ t,tagOf v s=some t):mAnd (mUn (opIsi "int") (mv 0)) (mUn opNot (mUn (opIsi "bool") (mv 0))) [some v] s=.ok (.bl (isNum v)) s:=by
 obtain⟨t,h⟩:=h
 show((opIsi "int" v s).bind λ v s1=>_)=_
 rw[isi_eq h]
 show(match AV.bl (isTag t "int") with|.bl true=>((opIsi "bool" v s).bind λ w s2=>opNot w s2)|.bl false=>.ok (.bl false) s|_=>.bad)=_
 rw[isi_eq h]
 cases v with
 | ref i=>rcases tag_ref h with rfl|rfl<;>rfl
 | _=>cases h;rfl
theorem is_number_eq {v:AV}{s:S}(h:∃ t,tagOf v s=some t):f_is_number [v] s=.ok (.bl (isNum v)) s:=by
 unfold f_is_number b_is_number fnR sRet
 show(match (mAnd (mUn (opIsi "int") (mv 0)) (mUn opNot (mUn (opIsi "bool") (mv 0))) [some v] s).bindS (λ v s1=>RS.rt v s1) with|.rt v s1=>R.ok v s1|.nx _ s1=>.ok .non s1|.ex c s1=>.ex c s1|_=>.bad)=_
 rw[isnum_wp h];rfl
theorem law_number_eq {v:AV}{s:S}(h:∃ t,tagOf v s=some t):f__law_is_number [v] s=.ok (.bl (isNum v)) s:=is_number_eq h
theorem comp_map {elt:Ev}{gs:Gd}{rest:En}{s:S}(g:AV->AV)(hg:gOk gs s):∀ (xs acc:List AV) (x:Option AV),(∀ v∈xs,elt (some v :: rest) s=.ok (g v) s)->compL (gN 0) cYes elt gs xs (x :: rest) s acc=.ok (acc++xs.map g) s
 | [],acc,x,_=>by unfold compL;rw[if_pos hg];simp
 | v :: r,acc,x,h=>by
  unfold compL
  rw[if_pos hg]
  show((elt (some v :: rest) s).calm.bind λ x s3=>compL (gN 0) cYes elt gs r (some v :: rest) s3 (acc++[x]))=_
  rw[h v (.head _)]
  show compL (gN 0) cYes elt gs r (some v :: rest) s (acc++[g v])=_
  rw[comp_map g hg r _ _ λ w hw=>h w (.tail _ hw)]
  simp
theorem blsO_map (f:AV->Bool):∀ xs:List AV,blsO (xs.map λ v=>.bl (f v))=some (xs.map f)
 | []=>rfl
 | v :: r=>by simp only[List.map_cons,blsO,blsO_map f r];rfl
theorem all_map {l:Lc}{src:Src}{elt:Ev}{env:En}{s:S}{xs:List AV}{gs:Gd}{rest:En}(f:AV->Bool)(e1:src env s=.ok (xs,gs) s) (hl:xs.length<=sizeLine)(hg:gOk gs s)(e2:srcE l env=none :: rest)(h:∀ v∈xs,elt (some v :: rest) s=.ok (.bl (f v)) s) :
  gOp qAll (lComp l src (gN 0) cYes elt) env s=.ok (.bl (xs.all f)) s:=by
 unfold gOp lComp
 rw[e1,bind_ok,if_pos hl,e2,comp_map (λ v=>.bl (f v)) hg xs [] none h]
 show(need (blsO (xs.map λ v=>.bl (f v))) λ ns=>R.ok (AV.bl (ns.all id)) s)=_
 rw[blsO_map]
 show R.ok (AV.bl ((xs.map f).all id)) s=_
 rw[List.all_map];rfl
theorem bind_ok' {α β:Type}(a:α)(s:S)(f:α->S->R β):(R.ok a s).bind f=f a s:=rfl
theorem gOk_nil (s:S):gOk [] s:=λ p hp=>nomatch hp
theorem if_ok {c:Eb}{b:Ms}{env:En}{s:S}{x:Bool}{v:AV}(h:c env s=.ok x s)(k:x=false->b env s=.rt v s):sSeq (sIf c (sRet (mc (.bl false))) sSkip) b env s=.rt (if x=true then .bl false else v) s:=by
 unfold sSeq sIf
 rw[h]
 cases x with
 | true=>rfl
 | false=>exact k rfl
theorem or_ok {c d:Eb}{env:En}{s:S}{x y:Bool}(h:c env s=.ok x s)(k:x=false->d env s=.ok y s):cOr c d env s=.ok (x || y) s:=by
 unfold cOr
 rw[h]
 cases x with
 | true=>rfl
 | false=>exact k rfl
theorem not_ok {c:Eb}{env:En}{s:S}{x:Bool}(h:c env s=.ok x s):cNot c env s=.ok (!x) s:=by unfold cNot;rw[h];rfl
theorem t_ok {m:Ev}{env:En}{s:S}{x:Bool}(h:m env s=.ok (.bl x) s):cT m env s=.ok x s:=by unfold cT;rw[h];rfl
theorem b_ok {m:Ev}{env:En}{s:S}{x:Bool}(h:m env s=.ok (.bl x) s):cB m env s=.ok x s:=by unfold cB;rw[h];rfl
theorem ret_ok {m:Ev}{env:En}{s:S}{v:AV}(h:m env s=.ok v s):sRet m env s=.rt v s:=by unfold sRet;rw[h];rfl
theorem and_ok {a b:Ev}{env:En}{s:S}{x y:Bool}(h:a env s=.ok (.bl x) s) (k:x=true->b env s=.ok (.bl y) s):mAnd a b env s=.ok (.bl (x && y)) s:=by
 unfold mAnd
 rw[h]
 cases x with
 | false=>rfl
 | true=>exact k rfl
theorem orE_ok {a b:Ev}{env:En}{s:S}{x y:Bool}(h:a env s=.ok (.bl x) s) (k:x=false->b env s=.ok (.bl y) s):mOr a b env s=.ok (.bl (x || y)) s:=by
 unfold mOr
 rw[h]
 cases x with
 | true=>rfl
 | false=>exact k rfl
theorem call1 {F:List AV->S->R AV}{m:Ev}{env:En}{s:S}{v w:AV}(h:m env s=.ok v s)(k:F [v] s=.ok w s):mCall 1 F (pCons m pNil) env s=.ok w s:=by
 unfold mCall pCons pNil
 rw[h]
 exact k
theorem call2 {F:List AV->S->R AV}{m m2:Ev}{env:En}{s:S}{v v2 w:AV}(h:m env s=.ok v s)(h2:m2 env s=.ok v2 s)(k:F [v,v2] s=.ok w s):mCall 2 F (pCons m (pCons m2 pNil)) env s=.ok w s:=by
 unfold mCall pCons pNil
 rw[h,bind_ok',h2]
 exact k
theorem un_ok {op:AV->S->R AV}{m:Ev}{env:En}{s:S}{v w:AV}(h:m env s=.ok v s)(k:op v s=.ok w s):mUn op m env s=.ok w s:=by unfold mUn;rw[h];exact k
theorem bin_ok {op:AV->AV->S->R AV}{m m2:Ev}{env:En}{s:S}{v v2 w:AV}(h:m env s=.ok v s)(h2:m2 env s=.ok v2 s)(k:op v v2 s=.ok w s):mBin op m m2 env s=.ok w s:=by unfold mBin;rw[h,bind_ok',h2];exact k
theorem op1_ok {op:List AV->S->R AV}{m:Ev}{env:En}{s:S}{v w:AV}(h:m env s=.ok v s)(k:op [v] s=.ok w s):mOp op (pCons m pNil) env s=.ok w s:=by unfold mOp pCons pNil;rw[h];exact k
theorem fn_rt {n:Nat}{b:Ms}{args:List AV}{s:S}{v:AV}(h:b (args.map some++List.replicate (n - args.length) none) s=.rt v s):fnR n b args s=.ok v s:=by unfold fnR;rw[h]
theorem chain_ok {o o':AV->AV->S->R AV}{a b c:Ev}{env:En}{s:S}{v w z:AV}{x y:Bool}(h1:a env s=.ok v s)(h2:b env s=.ok w s)(h3:o v w s=.ok (.bl x) s) (h4:c env s=.ok z s)(h5:o' w z s=.ok (.bl y) s):mChain o o' a b c env s=.ok (.bl (x && y)) s:=by
 unfold mChain
 rw[h1,bind_ok',h2,bind_ok',h3,bind_ok']
 cases x with
 | false=>rfl
 | true=>show((c env s).bind λ z s4=>o' w z s4)=_;rw[h4];exact h5
theorem lenT {xs:List AV}{s:S}:opLen [.tup xs] s=.ok (.int xs.length) s:=rfl
def isTy (n:String):AV->S->Bool:=λ v s=>match tagOf v s with
 | some t=>isTag t n
 | none=>false
theorem isi_ok {v:AV}{s:S}{n:String}{m:Ev}{env:En}(h:∃ t,tagOf v s=some t)(e:m env s=.ok v s):mUn (opIsi n) m env s=.ok (.bl (isTy n v s)) s:=by
 obtain⟨t,h⟩:=h
 refine un_ok e ?_
 unfold isTy
 rw[isi_eq h,h]
theorem ty_tup {v:AV}{s:S}(h:isTy "tuple" v s=true):∃ xs,v=.tup xs:=by
 cases v with
 | tup xs=>exact⟨xs,rfl⟩
 | ref i=>
  unfold isTy at h
  split at h
  ·rename_i t e;rcases tag_ref e with rfl|rfl<;>exact absurd h (by decide)
  ·cases h
 | _=>exact absurd h (by unfold isTy;simp only[tagOf];decide)
theorem ty_str {v:AV}{s:S}(h:isTy "str" v s=true):∃ xs,v=.str xs:=by
 cases v with
 | str xs=>exact⟨xs,rfl⟩
 | ref i=>
  unfold isTy at h
  split at h
  ·rename_i t e;rcases tag_ref e with rfl|rfl<;>exact absurd h (by decide)
  ·cases h
 | _=>exact absurd h (by unfold isTy;simp only[tagOf];decide)
theorem ty_tupT (xs:List AV)(s:S):isTy "tuple" (.tup xs) s=true:=by unfold isTy;simp only[tagOf];decide
theorem ty_strT (xs:Str)(s:S):isTy "str" (.str xs) s=true:=by unfold isTy;simp only[tagOf];decide
def isTup (n:Int):AV->Bool
 | .tup xs=>decide ((xs.length:Int)=n)
 | _=>false
theorem isTup_and {v:AV}{s:S}{n:Int}:(isTy "tuple" v s && isTup n v)=isTup n v:=by
 cases h:isTy "tuple" v s with
 | true=>simp
 | false=>
  cases v with
  | tup xs=>rw[ty_tupT]at h;cases h
  | _=>rfl
theorem is_tuple_eq {v:AV}{s:S}{n:Int}(h:∃ t,tagOf v s=some t):f_is_tuple_of [v,.int n] s=.ok (.bl (isTup n v)) s:=by
 rw[<-isTup_and (s:=s)]
 refine fn_rt (ret_ok (and_ok (isi_ok h rfl) λ h1=>?_))
 obtain⟨xs,rfl⟩:=ty_tup h1
 exact bin_ok (op1_ok rfl lenT) rfl rfl
theorem sg_le (a c:Nat):(!decide ([c] < [a]))=decide (a<=c):=by
 have:([c] < [a]) ↔ c < a:=by
  rw[List.cons_lt_cons_iff];simp
 by_cases h:c < a
 ·simp[this,h]
 ·simp[this,h];omega
def smV:AV->Bool
 | .str u=>u.cps.toList.all smC
 | _=>false
theorem smV_sgn (c:Nat):smV (sgn c)=smC c:=by unfold smV sgn;simp
theorem len_wp {t:Str}{s:S}(h:t.length<=sizeLine):opLen [.str t] s=.ok (.int t.length) s:=if_pos h
theorem len18 {m:Ev}{env:En}{t:Str}{s:S}(e:m env s=.ok (.str t) s) (h:t.length<=sizeLine):mChain opLe opLe (mc (.int 1)) (mOp opLen (pCons m pNil)) (mc (.int 8)) env s=.ok (.bl (decide (1<=t.length) && decide (t.length<=8))) s:=by
 rw[chain_ok (x:=decide ((1:Int)<=t.length)) (y:=decide ((t.length:Int)<=8)) rfl (op1_ok e (len_wp h)) rfl rfl rfl]
 congr 3
 ·simp;omega
 ·simp;omega
theorem srcS_ok {m:Ev}{env:En}{t:Str}{s:S}(e:m env s=.ok (.str t) s) (h:t.cps.all (· < 128)=true):srcS m env s=.ok (t.cps.toList.map sgn,[]) s:=by
 unfold srcS
 rw[e]
 exact if_pos h
theorem az_eq (c:Nat)(s:S):mChain opLeS opLeS (mc (.str "a")) (mv 0) (mc (.str "z")) [some (sgn c)] s=.ok (.bl (smC c)) s:=by
 have e1:("a":Str).cps.toList=[97]:=by decide +kernel
 have e2:("z":Str).cps.toList=[122]:=by decide +kernel
 show(match AV.bl (!decide ([c] < ("a":Str).cps.toList)) with|.bl true=>R.ok (AV.bl (!decide (("z":Str).cps.toList < [c]))) s|.bl false=>.ok (.bl false) s|_=>.bad)=_
 rw[e1,e2,sg_le,sg_le]
 unfold smC
 by_cases h:97<=c
 ·simp[h]
 ·simp[h]
theorem small_eq {l:Lc}{env:En}{m:Ev}{t:Str}{s:S}(e:m env s=.ok (.str t) s) (e2:srcE l env=[none])(h:t.cps.all (· < 128)=true) (hl:t.length<=sizeLine) :
  gOp qAll (lComp l (srcS m) (gN 0) cYes (mChain opLeS opLeS (mc (.str "a")) (mv 0) (mc (.str "z")))) env s=.ok (.bl (t.cps.toList.all smC)) s:=by
 rw[all_map smV (srcS_ok e h) (by rw[List.length_map];exact hl) (gOk_nil s) e2 λ v hv=>?_]
 ·rw[List.all_map]
  congr 2
  congr 1
  funext c
  exact smV_sgn c
 ·obtain⟨c,_,rfl⟩:=List.mem_map.mp hv
  rw[az_eq,smV_sgn]
theorem if_t {c:Eb}{b:Ms}{env:En}{s:S}(h:c env s=.ok true s):sSeq (sIf c (sRet (mc (.bl false))) sSkip) b env s=.rt (.bl false) s:=by
 unfold sSeq sIf
 rw[h];rfl
theorem if_f {c:Eb}{b:Ms}{env:En}{s:S}{r:RS}(h:c env s=.ok false s)(k:b env s=r):sSeq (sIf c (sRet (mc (.bl false))) sSkip) b env s=r:=by
 unfold sSeq sIf
 rw[h];exact k
theorem or_t {c d:Eb}{env:En}{s:S}(h:c env s=.ok true s):cOr c d env s=.ok true s:=by unfold cOr;rw[h];rfl
theorem or_f {c d:Eb}{env:En}{s:S}{r:R Bool}(h:c env s=.ok false s)(k:d env s=r):cOr c d env s=r:=by unfold cOr;rw[h];exact k
theorem isi_b {v:AV}{s:S}{n:String}{m:Ev}{env:En}{b:Bool}(h:∃ t,tagOf v s=some t)(e:m env s=.ok v s)(k:isTy n v s=b):mUn (opIsi n) m env s=.ok (.bl b) s:=k ▸ isi_ok h e
theorem isNm_no {v:AV}{s:S}(h:isTy "str" v s=false):isNm v=false:=by
 cases v with
 | str xs=>rw[ty_strT]at h;cases h
 | _=>rfl
theorem is_name_eq {v:AV}{s:S}(h:leafOk s v):f_is_name [v] s=.ok (.bl (isNm v)) s:=by
 obtain⟨ht,h⟩:=h
 cases hs:isTy "str" v s with
 | true=>
  obtain⟨t,rfl⟩:=ty_str hs
  refine(fn_rt (if_ok (or_ok (not_ok (t_ok (isi_b ht rfl hs))) λ _=>not_ok (b_ok (len18 rfl h.2))) λ _=>ret_ok (small_eq rfl rfl h.1 h.2))).trans ?_
  unfold isNm
  dsimp only
  cases (decide (1<=t.length) && decide (t.length<=8))<;>rfl
 | false=>
  rw[isNm_no hs]
  exact fn_rt (if_t (or_t (not_ok (x:=false) (t_ok (isi_b ht rfl hs)))))
theorem isFr_no {v:AV}(h:isTup 2 v=false):isFr v=false:=by
 unfold isFr
 split
 ·exact absurd h (by simp[isTup])
 ·rfl
theorem isFr_num {v w:AV}(h:isNum v=false∨isNum w=false):isFr (.tup [v,w])=false:=by
 unfold isFr
 split
 ·rename_i e;cases e;rcases h with h|h<;>cases h
 ·rfl
theorem isNum_int {v:AV}(h:isNum v=true):∃ i,v=.int i:=by
 cases v with
 | int i=>exact⟨i,rfl⟩
 | _=>cases h
theorem two_of {xs:List AV}(h:isTup 2 (.tup xs)=true):∃ a b,xs=[a,b]:=by
 have h:((xs.length:Int))=2:=by simpa[isTup]using h
 match xs,h with
 | [a,b],_=>exact⟨a,b,rfl⟩
 | [],h=>simp at h
 | [a],h=>simp at h
 | a :: b :: c :: r,h=>simp at h;omega
theorem tup_of {n:Int}{v:AV}(h:isTup n v=true):∃ xs,v=.tup xs:=by
 cases v with
 | tup xs=>exact⟨xs,rfl⟩
 | _=>cases h
theorem nums_eq {F:List AV->S->R AV}{l:Lc}{env:En}{m:Ev}{a b:AV}{s:S}(hF:∀ v,(∃ t,tagOf v s=some t)->F [v] s=.ok (.bl (isNum v)) s) (e:m env s=.ok (.tup [a,b]) s) (e2:srcE l env=[none])(h1:∃ t,tagOf a s=some t)(h2:∃ t,tagOf b s=some t) :
  gOp qAll (lComp l (srcV' m) (gN 0) cYes (mCall 1 F (pCons (mv 0) pNil))) env s=.ok (.bl (isNum a && (isNum b && true))) s:=by
 refine all_map (xs:=[a,b]) (gs:=[]) isNum ?_ (by show(2:Nat)<=sizeLine;rw[sizeLine_eq];decide) (gOk_nil s) e2 λ v hv=>?_
 ·unfold srcV';rw[e];rfl
 ·simp only[List.mem_cons,List.not_mem_nil,or_false]at hv
  rcases hv with rfl|rfl
  ·exact call1 rfl (hF _ h1)
  ·exact call1 rfl (hF _ h2)
theorem is_fraction_eq {v:AV}{s:S}(h:okD 1 s v):f_is_fraction [v] s=.ok (.bl (isFr v)) s:=by
 have ht:=h.leaf.1
 cases hs:isTup 2 v with
 | false=>
  rw[isFr_no hs]
  exact fn_rt (if_t (or_t (not_ok (x:=false) (t_ok (call2 rfl rfl (hs ▸ is_tuple_eq ht))))))
 | true=>
  obtain⟨xs,rfl⟩:=tup_of hs
  obtain⟨a,b,rfl⟩:=two_of hs
  obtain⟨_,h2⟩:=h.2 _ rfl
  have h1:=(h2 a (by simp)).leaf.1
  have h3:=(h2 b (by simp)).leaf.1
  have k:=nums_eq (F:=f_is_number) (l:=[("number",none)]) (env:=[some (.tup [a,b]),none,none]) (m:=mv 0) (s:=s) (λ v h=>is_number_eq h) rfl rfl h1 h3
  have k0:cT (mCall 2 f_is_tuple_of (pCons (mv 0) (pCons (mc (.int 2)) pNil))) [some (.tup [a,b]),none,none] s=.ok true s:=t_ok (call2 rfl rfl (hs ▸ is_tuple_eq ht))
  cases ha:isNum a && isNum b with
  | false=>
   rw[isFr_num (by cases h:isNum a<;>simp_all)]
   refine fn_rt (if_t (or_f (not_ok k0) (not_ok (x:=false) (t_ok ?_))))
   rw[show(isNum a && (isNum b && true))=false by simpa using ha]at k
   exact k
  | true=>
   obtain⟨ha,hb⟩:=Bool.and_eq_true_iff.mp ha
   obtain⟨i,rfl⟩:=isNum_int ha
   obtain⟨j,rfl⟩:=isNum_int hb
   refine fn_rt (if_f (or_f (not_ok k0) (not_ok (x:=true) (t_ok k))) ?_)
   show sSeq _ _ _ s=_
   have:sRet (mAnd (mBin opGe (mv 2) (mc (.int 1))) (mBin opEq (mCall 2 f_greatest_divisor (pCons (mv 1) (pCons (mv 2) pNil))) (mc (.int 1)))) [some (.tup [.int i,.int j]),some (.int i),some (.int j)] s=.rt (.bl (decide (1<=j) && decide (ig i j=1))) s:=
    ret_ok (and_ok rfl λ _=>bin_ok (call2 rfl rfl (gcd_eq i j s)) rfl rfl)
   exact this
theorem ig_one {i j:Int}(hj:1<=j):ig i j=1 ↔ Int.gcd i j=1:=by
 show((Int.gcd i j:Nat):Int)=1 ↔ _
 omega
theorem eq_two (s:S)(a b c d:Int):opEq (.tup [.int a,.int b]) (.tup [.int c,.int d]) s=.ok (.bl (decide (a=c) && decide (b=d))) s:=by
 unfold opEq eqAV
 simp only
 have e:∀ x y:Int,toD 20 s (.tup [.int x,.int y])=some (.tup [.int x,.int y]):=λ x y=>by simp[toD]
 rw[e,e]
 dsimp only
 rw[if_pos (show depL [Dt.int a,Dt.int b]<=20 by simp[depL,Dt.dep])]
 simp only[eqDL,eqD,need_some]
 by_cases h1:a=c<;>by_cases h2:b=d<;>simp[h1,h2]
theorem low_same {i j:Int}(hj:1<=j):(decide ((Rat.divInt i j).num=i) && decide (((Rat.divInt i j).den:Int)=j))=decide (ig i j=1):=by
 have e:=fr_rat (t:=i) (b:=j) (by omega)
 have e1:i.fdiv (gsg i j)=(Rat.divInt i j).num:=congrArg Prod.fst e
 have e2:j.fdiv (gsg i j)=((Rat.divInt i j).den:Int):=congrArg Prod.snd e
 have eg:gsg i j=ig i j:=if_neg (by omega)
 rw[eg]at e1 e2
 by_cases h:ig i j=1
 ·rw[h,Int.fdiv_one]at e1 e2
  rw[<-e1,<-e2];simp[h]
 ·rw[decide_eq_false h,Bool.and_eq_false_iff]
  by_cases h1:(Rat.divInt i j).num=i
  ·right
   apply decide_eq_false
   intro h2
   have:=rat_cop (Rat.divInt i j)
   rw[h1,h2]at this
   exact h ((ig_one hj).mpr this)
  ·left;exact decide_eq_false h1
theorem law_fraction_eq {v:AV}{s:S}(h:okD 1 s v):f__law_is_fraction [v] s=.ok (.bl (isFr v)) s:=by
 have ht:=h.leaf.1
 cases hs:isTy "tuple" v s with
 | false=>
  rw[isFr_no (by rw[<-isTup_and (s:=s),hs];rfl)]
  exact fn_rt (if_t (or_t (not_ok (x:=false) (t_ok (isi_b ht rfl hs)))))
 | true=>
  obtain⟨xs,rfl⟩:=ty_tup hs
  have kl:cB (mBin opNe (mOp opLen (pCons (mv 0) pNil)) (mc (.int 2))) [some (.tup xs)] s=.ok (!(isTup 2 (.tup xs))) s:=b_ok (bin_ok (op1_ok rfl lenT) rfl rfl)
  cases h2:isTup 2 (.tup xs) with
  | false=>
   rw[isFr_no h2]
   rw[h2]at kl
   exact fn_rt (if_t (or_f (not_ok (x:=true) (t_ok (isi_b ht rfl hs))) (or_t kl)))
  | true=>
   rw[h2]at kl
   obtain⟨a,b,rfl⟩:=two_of h2
   obtain⟨_,h2⟩:=h.2 _ rfl
   have h1:=(h2 a (by simp)).leaf
   have h3:=(h2 b (by simp)).leaf
   have k:=nums_eq (F:=f__law_is_number) (l:=[("_law_part",none)]) (env:=[some (.tup [a,b])]) (m:=mv 0) (s:=s) (λ v h=>law_number_eq h) rfl rfl h1.1 h3.1
   cases ha:isNum a && isNum b with
   | false=>
    rw[isFr_num (by cases h:isNum a<;>simp_all)]
    refine fn_rt (if_t (or_f (not_ok (x:=true) (t_ok (isi_b ht rfl hs))) (or_f kl (not_ok (x:=false) (t_ok ?_)))))
    rw[show(isNum a && (isNum b && true))=false by simpa using ha]at k
    exact k
   | true=>
    obtain⟨ha,hb⟩:=Bool.and_eq_true_iff.mp ha
    obtain⟨i,rfl⟩:=isNum_int ha
    obtain⟨j,rfl⟩:=isNum_int hb
    refine fn_rt (if_f (or_f (not_ok (x:=true) (t_ok (isi_b ht rfl hs))) (or_f kl (not_ok (x:=true) (t_ok k)))) (ret_ok ?_))
    have e0:mBin opIx (mv 0) (mc (.int 0)) [some (.tup [.int i,.int j])] s=.ok (.int i) s:=rfl
    have e1:mBin opIx (mv 0) (mc (.int 1)) [some (.tup [.int i,.int j])] s=.ok (.int j) s:=rfl
    have e:isFr (.tup [.int i,.int j])=(decide (0 < j) && (decide ((Rat.divInt i j).num=i) && decide (((Rat.divInt i j).den:Int)=j))):=by
     show(decide (1<=j) && decide (ig i j=1))=_
     by_cases hj:1<=j
     ·rw[low_same hj];simp[hj];intro;omega
     ·simp[hj];intro;omega
    rw[e]
    refine and_ok (bin_ok e1 rfl rfl) λ hj=>bin_ok (call2 e0 e1 (lowest_eq s ?_ (h3.2.mono (by decide)) (h1.2.mono (by decide)))) rfl (eq_two s _ _ _ _)
    have:=of_decide_eq_true hj
    omega
theorem nine_of {xs:List AV}(h:isTup 9 (.tup xs)=true):∃ p e f w d r k g a,xs=[p,e,f,w,d,r,k,g,a]:=by
 have h:((xs.length:Int))=9:=by simpa[isTup]using h
 match xs,h with
 | [p,e,f,w,d,r,k,g,a],_=>exact⟨p,e,f,w,d,r,k,g,a,rfl⟩
 | [],h=>simp at h
 | [_],h=>simp at h
 | [_,_],h=>simp at h
 | [_,_,_],h=>simp at h
 | [_,_,_,_],h=>simp at h
 | [_,_,_,_,_],h=>simp at h
 | [_,_,_,_,_,_],h=>simp at h
 | [_,_,_,_,_,_,_],h=>simp at h
 | [_,_,_,_,_,_,_,_],h=>simp at h
 | _ :: _ :: _ :: _ :: _ :: _ :: _ :: _ :: _ :: _ :: r,h=>simp at h;omega
theorem isRw_no {v:AV}(h:isTup 9 v=false):isRw v=false:=by
 unfold isRw
 split
 ·exact absurd h (by simp[isTup])
 ·rfl
theorem isNN_and (v:AV):(isNum v && isNN v)=isNN v:=by cases v<;>rfl
theorem nn_eq {F:List AV->S->R AV}{m:Ev}{env:En}{v:AV}{s:S}(hF:F [v] s=.ok (.bl (isNum v)) s) (e:m env s=.ok v s):mAnd (mCall 1 F (pCons m pNil)) (mBin opGe m (mc (.int 0))) env s=.ok (.bl (isNN v)) s:=by
 rw[<-isNN_and]
 refine and_ok (call1 e hF) λ h=>?_
 obtain⟨i,rfl⟩:=isNum_int h
 exact bin_ok e rfl rfl
theorem small4:∀ {a b c d:AV},[a,b,c,d].length<=sizeLine:=λ {_ _ _ _}=>by show(4:Nat)<=sizeLine;rw[sizeLine_eq];decide
theorem tup4 {m1 m2 m3 m4:Ev}{env:En}{s:S}{a b c d:AV}(h1:m1 env s=.ok a s)(h2:m2 env s=.ok b s)(h3:m3 env s=.ok c s)(h4:m4 env s=.ok d s):srcV' (mTup (pCons m1 (pCons m2 (pCons m3 (pCons m4 pNil))))) env s=.ok ([a,b,c,d],[]) s:=by
 unfold srcV' mTup pCons pNil
 rw[h1,bind_ok',h2,bind_ok',h3,bind_ok',h4]
 simp only[bind_ok']
 rw[if_pos small4]
 rfl
theorem row_split (p e f w d r k g a:AV):isRw (.tup [p,e,f,w,d,r,k,g,a])=(isNm p && [e,f,r,k].all isFr && [w,d,g,a].all isNN):=rfl
theorem is_statement_eq {v:AV}{s:S}(h:okD 2 s v):f_is_statement [v] s=.ok (.bl (isRw v)) s:=by
 have ht:=h.leaf.1
 cases hs:isTup 9 v with
 | false=>
  rw[isRw_no hs]
  exact fn_rt (if_t (not_ok (x:=false) (t_ok (call2 rfl rfl (hs ▸ is_tuple_eq ht)))))
 | true=>
  obtain⟨xs,rfl⟩:=tup_of hs
  obtain⟨p,e,f,w,d,r,k,g,a,rfl⟩:=nine_of hs
  obtain⟨_,h2⟩:=h.2 _ rfl
  refine fn_rt (if_f (not_ok (x:=true) (t_ok (call2 rfl rfl (hs ▸ is_tuple_eq ht)))) ?_)
  let E:En:=[some (.tup [p,e,f,w,d,r,k,g,a]),some p,some e,some f,some w,some d,some r,some k,some g,some a]
  have kn:cT (mCall 1 f_is_name (pCons (mv 1) pNil)) E s=.ok (isNm p) s:=t_ok (call1 rfl (is_name_eq (h2 p (by simp)).leaf))
  have kf:gOp qAll (lComp [("coins",none)] (srcV' (mTup (pCons (mv 2) (pCons (mv 3) (pCons (mv 6) (pCons (mv 7) pNil)))))) (gN 0) cYes (mCall 1 f_is_fraction (pCons (mv 0) pNil))) E s=.ok (.bl ([e,f,r,k].all isFr)) s:=by
   refine all_map (rest:=[]) isFr (tup4 rfl rfl rfl rfl) small4 (gOk_nil s) rfl λ v hv=>call1 rfl (is_fraction_eq (h2 v ?_))
   simp only[List.mem_cons,List.not_mem_nil,or_false]at hv ⊢
   rcases hv with rfl|rfl|rfl|rfl<;>simp
  have ku:gOp qAll (lComp [("coins",none)] (srcV' (mTup (pCons (mv 4) (pCons (mv 5) (pCons (mv 8) (pCons (mv 9) pNil)))))) (gN 0) cYes (mAnd (mCall 1 f_is_number (pCons (mv 0) pNil)) (mBin opGe (mv 0) (mc (.int 0))))) E s=.ok (.bl ([w,d,g,a].all isNN)) s:=by
   refine all_map (rest:=[]) isNN (tup4 rfl rfl rfl rfl) small4 (gOk_nil s) rfl λ v hv=>nn_eq (is_number_eq (h2 v ?_).leaf.1) rfl
   simp only[List.mem_cons,List.not_mem_nil,or_false]at hv ⊢
   rcases hv with rfl|rfl|rfl|rfl<;>simp
  have:=if_ok (b:=sRet (gOp qAll (lComp [("coins",none)] (srcV' (mTup (pCons (mv 4) (pCons (mv 5) (pCons (mv 8) (pCons (mv 9) pNil)))))) (gN 0) cYes (mAnd (mCall 1 f_is_number (pCons (mv 0) pNil)) (mBin opGe (mv 0) (mc (.int 0))))))) (or_ok (not_ok kn) λ _=>not_ok (t_ok kf)) λ _=>ret_ok ku
  refine Eq.trans (show _=sSeq _ _ E s from rfl) (this.trans ?_)
  rw[row_split]
  congr 1
  cases isNm p<;>cases [e,f,r,k].all isFr<;>rfl
theorem abc_in:∀ c,c < 128->Txt.contains "abcdefghijklmnopqrstuvwxyz" ⟨#[c]⟩=smC c:=by decide +kernel
theorem comp_filter {test:Eb}{gs:Gd}{rest:En}{s:S}(f:AV->Bool)(hg:gOk gs s):∀ (xs acc:List AV) (x:Option AV),(∀ v∈xs,test (some v :: rest) s=.ok (f v) s)->compL (gN 0) test (mv 0) gs xs (x :: rest) s acc=.ok (acc++xs.filter f) s
 | [],acc,x,_=>by unfold compL;rw[if_pos hg];simp
 | v :: r,acc,x,h=>by
  unfold compL
  rw[if_pos hg]
  show((test (some v :: rest) s).calm.bind λ b s2=>if b=true then ((mv 0 (some v :: rest) s2).calm.bind λ x s3=>compL (gN 0) test (mv 0) gs r (some v :: rest) s3 (acc++[x])) else compL (gN 0) test (mv 0) gs r (some v :: rest) s2 acc)=_
  rw[h v (.head _)]
  show(if f v=true then compL (gN 0) test (mv 0) gs r (some v :: rest) s (acc++[v]) else compL (gN 0) test (mv 0) gs r (some v :: rest) s acc)=_
  rw[comp_filter f hg r _ _ λ w hw=>h w (.tail _ hw),comp_filter f hg r _ _ λ w hw=>h w (.tail _ hw)]
  cases hv:f v<;>simp[hv]
theorem lst_last (s:S)(xs:List AV):lstO (s++[.lst xs]) s.length=some xs:=lstO_of (by simp)
theorem lst_old {s e:S}{i:Nat}{xs:List AV}(h:lstO s i=some xs):lstO (s++e) i=some xs:=by
 refine lstO_of ?_
 have:=lstO_inv h
 rw[List.getElem?_append_left (List.getElem?_eq_some_iff.mp this).1]
 exact this
theorem neNil0 {L:Evs}{env:En}{s:S}{xs:List AV}(h:L env s=.ok xs s)(hf:xs.all flatA=true):gcB (cB (mBin opNe (mNew L) (mNew (lLst pNil)))) env s=.ok (!xs.isEmpty) s:=by
 have e1:mNew L env s=.ok (.ref s.length) (s++[.lst xs]):=by unfold mNew;rw[h];rfl
 have e2:mNew (lLst pNil) env (s++[.lst xs])=.ok (.ref (s++[AO.lst xs]).length) (s++[.lst xs]++[.lst []]):=by
  unfold mNew lLst pNil
  simp only[bind_ok']
  rw[if_pos (show([]:List AV).length<=sizeLine from Nat.zero_le _)]
  rfl
 have e3:opNe (.ref s.length) (.ref (s++[AO.lst xs]).length) (s++[.lst xs]++[.lst []])=.ok (.bl (!xs.isEmpty)) (s++[.lst xs]++[.lst []]):=by
  unfold opNe
  rw[eqAV_nil (lst_old (lst_last s xs)) (lst_last _ []) hf]
  rfl
 unfold gcB cB mBin
 rw[e1,bind_ok',e2,bind_ok',e3,bind_ok',bind_ok',if_pos]
 rw[List.append_assoc,List.take_left']
 rfl
theorem signs_eq {m:Ev}{env:En}{t:Str}{s:S}{x:Option AV}(e:m env s=.ok (.str t) s) (e2:srcE [("_law_sign",none),("_law_small",some 1)] env=[none,some (.str "abcdefghijklmnopqrstuvwxyz")]) (h:t.cps.all (· < 128)=true) (hl:t.length<=sizeLine) :
  gcB (cB (mBin opNe (mNew (lComp [("_law_sign",none),("_law_small",some 1)] (srcS m) (gN 0) (cB (mBin opNinS (mv 0) (mv 1))) (mv 0))) (mNew (lLst pNil)))) env s=.ok (!(t.cps.toList.all smC)) s:=by
 have hc:∀ c∈t.cps.toList,c < 128:=λ c hc=>by
  have:=Array.all_eq_true'.mp h c (Array.mem_toList_iff.mp hc)
  exact of_decide_eq_true this
 have k:lComp [("_law_sign",none),("_law_small",some 1)] (srcS m) (gN 0) (cB (mBin opNinS (mv 0) (mv 1))) (mv 0) env s=.ok ((t.cps.toList.map sgn).filter λ v=>!(smV v)) s:=by
  unfold lComp
  rw[srcS_ok e h,bind_ok',if_pos (by rw[List.length_map];exact hl),e2,comp_filter (λ v=>!(smV v)) (gOk_nil s) _ _ _ λ v hv=>?_,List.nil_append]
  obtain⟨c,h1,rfl⟩:=List.mem_map.mp hv
  refine b_ok (bin_ok rfl rfl ?_)
  show R.ok (AV.bl (!(Txt.contains "abcdefghijklmnopqrstuvwxyz" ⟨#[c]⟩))) s=_
  rw[abc_in c (hc c h1),smV_sgn]
 rw[neNil0 k ?_]
 ·congr 2
  rw[List.filter_map,Bool.eq_iff_iff]
  simp only[List.isEmpty_iff,List.map_eq_nil_iff,List.filter_eq_nil_iff,List.all_eq_true,Function.comp,smV_sgn]
  simp
 ·rw[List.all_eq_true]
  intro v hv
  obtain⟨c,h1,rfl⟩:=List.mem_map.mp (List.mem_filter.mp hv).1
  rfl
theorem ix9 {p e f w d r k g a:AV}{s:S} :
  opIx (.tup [p,e,f,w,d,r,k,g,a]) (.int 0) s=.ok p s/\opIx (.tup [p,e,f,w,d,r,k,g,a]) (.int 1) s=.ok e s/\opIx (.tup [p,e,f,w,d,r,k,g,a]) (.int 2) s=.ok f s/\opIx (.tup [p,e,f,w,d,r,k,g,a]) (.int 3) s=.ok w s/\opIx (.tup [p,e,f,w,d,r,k,g,a]) (.int 4) s=.ok d s/\opIx (.tup [p,e,f,w,d,r,k,g,a]) (.int 5) s=.ok r s/\opIx (.tup [p,e,f,w,d,r,k,g,a]) (.int 6) s=.ok k s/\opIx (.tup [p,e,f,w,d,r,k,g,a]) (.int 7) s=.ok g s/\opIx (.tup [p,e,f,w,d,r,k,g,a]) (.int 8) s=.ok a s:=⟨rfl,rfl,rfl,rfl,rfl,rfl,rfl,rfl,rfl⟩
theorem all4 {l:Lc}{env:En}{elt:Ev}{s:S}{t x1 x2 x3 x4:AV}{a b c d:Int}(f:AV->Bool)(e2:srcE l env=[none,some t])(h1:opIx t (.int a) s=.ok x1 s) (h2:opIx t (.int b) s=.ok x2 s) (h3:opIx t (.int c) s=.ok x3 s) (h4:opIx t (.int d) s=.ok x4 s)
  (h:∀ (i:Int) (x:AV),opIx t (.int i) s=.ok x s->x∈[x1,x2,x3,x4]->elt [some (.int i),some t] s=.ok (.bl (f x)) s) :
  gOp qAll (lComp l (srcV' (mTup (pCons (mc (.int a)) (pCons (mc (.int b)) (pCons (mc (.int c)) (pCons (mc (.int d)) pNil)))))) (gN 0) cYes elt) env s=.ok (.bl ([x1,x2,x3,x4].all f)) s:=by
 let F:AV->Bool:=λ v=>match v with
  | .int i=>match opIx t (.int i) s with
   | .ok x _=>f x
   | _=>false
  | _=>false
 have k:=all_map (l:=l) (elt:=elt) (env:=env) (s:=s) (rest:=[some t]) F (tup4 (m1:=mc (.int a)) (m2:=mc (.int b)) (m3:=mc (.int c)) (m4:=mc (.int d)) rfl rfl rfl rfl) small4 (gOk_nil s) e2 λ v hv=>?_
 ·rw[k]
  show R.ok (AV.bl (F (.int a) && (F (.int b) && (F (.int c) && (F (.int d) && true))))) s=_
  simp only[F,h1,h2,h3,h4]
  rfl
 ·simp only[List.mem_cons,List.not_mem_nil,or_false]at hv
  rcases hv with rfl|rfl|rfl|rfl
  ·rw[h a x1 h1 (by simp)];simp only[F,h1]
  ·rw[h b x2 h2 (by simp)];simp only[F,h2]
  ·rw[h c x3 h3 (by simp)];simp only[F,h3]
  ·rw[h d x4 h4 (by simp)];simp only[F,h4]
theorem law_row_eq {v:AV}{s:S}(h:okD 2 s v):f__law_is_row [v] s=.ok (.bl (isRw v)) s:=by
 have ht:=h.leaf.1
 cases hs:isTy "tuple" v s with
 | false=>
  rw[isRw_no (by rw[<-isTup_and (s:=s),hs];rfl)]
  exact fn_rt (if_t (or_t (not_ok (x:=false) (t_ok (isi_b ht rfl hs)))))
 | true=>
  obtain⟨xs,rfl⟩:=ty_tup hs
  have kl:cB (mBin opNe (mOp opLen (pCons (mv 0) pNil)) (mc (.int 9))) [some (.tup xs),none] s=.ok (!(isTup 9 (.tup xs))) s:=b_ok (bin_ok (op1_ok rfl lenT) rfl rfl)
  cases h9:isTup 9 (.tup xs) with
  | false=>
   rw[isRw_no h9]
   rw[h9]at kl
   exact fn_rt (if_t (or_f (not_ok (x:=true) (t_ok (isi_b ht rfl hs))) (or_t kl)))
  | true=>
   rw[h9]at kl
   obtain⟨p,e,f,w,d,r,k,g,a,rfl⟩:=nine_of h9
   obtain⟨_,h2⟩:=h.2 _ rfl
   have hp:=(h2 p (by simp)).leaf
   have e0:∀ x,mBin opIx (mv 0) (mc (.int 0)) [some (.tup [p,e,f,w,d,r,k,g,a]),x] s=.ok p s:=λ _=>rfl
   cases hq:isTy "str" p s with
   | false=>
    rw[row_split,isNm_no hq]
    exact fn_rt (if_t (or_f (not_ok (x:=true) (t_ok (isi_b ht rfl hs))) (or_f kl (not_ok (x:=false) (t_ok (isi_b hp.1 (e0 _) hq))))))
   | true=>
    obtain⟨t,rfl⟩:=ty_str hq
    refine fn_rt (if_f (or_f (not_ok (x:=true) (t_ok (isi_b ht rfl hs))) (or_f kl (not_ok (x:=true) (t_ok (isi_b hp.1 (e0 _) hq))))) ?_)
    let E:En:=[some (.tup [.str t,e,f,w,d,r,k,g,a]),some (.str "abcdefghijklmnopqrstuvwxyz")]
    obtain⟨i0,i1,i2,i3,i4,i5,i6,i7,i8⟩:=ix9 (p:=.str t) (e:=e) (f:=f) (w:=w) (d:=d) (r:=r) (k:=k) (g:=g) (a:=a) (s:=s)
    have kf:=all4 (l:=[("_law_k",none),("_law_thing",some 0)]) (env:=E) (elt:=mCall 1 f__law_is_fraction (pCons (mBin opIx (mv 1) (mv 0)) pNil)) isFr rfl i1 i2 i5 i6 λ i x hx hm=>call1 (bin_ok rfl rfl hx) (law_fraction_eq (h2 x (by
     simp only[List.mem_cons,List.not_mem_nil,or_false]at hm ⊢
     rcases hm with rfl|rfl|rfl|rfl<;>simp)))
    have ku:=all4 (l:=[("_law_k",none),("_law_thing",some 0)]) (env:=E) (elt:=mAnd (mCall 1 f__law_is_number (pCons (mBin opIx (mv 1) (mv 0)) pNil)) (mBin opGe (mBin opIx (mv 1) (mv 0)) (mc (.int 0)))) isNN rfl i3 i4 i7 i8 λ i x hx hm=>nn_eq (law_number_eq (h2 x (by
     simp only[List.mem_cons,List.not_mem_nil,or_false]at hm ⊢
     rcases hm with rfl|rfl|rfl|rfl<;>simp)).leaf.1) (bin_ok rfl rfl hx)
    have k1:=if_ok (not_ok (t_ok kf)) λ _=>ret_ok ku
    have k2:=if_ok (or_ok (not_ok (b_ok (len18 (m:=mBin opIx (mv 0) (mc (.int 0))) (env:=E) (s:=s) (t:=t) (e0 _) hp.2.2))) λ _=>signs_eq (x:=none) (m:=mBin opIx (mv 0) (mc (.int 0))) (env:=E) (s:=s) (t:=t) (e0 _) rfl hp.2.1 hp.2.2) λ _=>k1
    refine Eq.trans (show _=sSeq _ _ E s from rfl) (k2.trans ?_)
    rw[row_split]
    unfold isNm
    congr 1
    dsimp only
    generalize (decide (1<=t.length) && decide (t.length<=8))=b1
    generalize t.cps.toList.all smC=b2
    generalize [e,f,r,k].all isFr=b3
    cases b1<;>cases b2<;>cases b3<;>rfl
def rowA (p:Str)(e f:Rat)(w d:Int)(r k:Rat)(g a:Int):AV:=.tup [.str p,fq e,fq f,.int w,.int d,fq r,fq k,.int g,.int a]
theorem isFr_rat {v:AV}(h:isFr v=true):∃ q:Rat,v=fq q:=by
 unfold isFr at h
 split at h
 ·rename_i a b
  obtain⟨h1,h2⟩:=Bool.and_eq_true_iff.mp h
  have h1:=of_decide_eq_true h1
  have h2:=of_decide_eq_true h2
  have:=low_same (i:=a) h1
  rw[decide_eq_true h2,Bool.and_eq_true]at this
  refine⟨Rat.divInt a b,?_⟩
  unfold fq
  rw[of_decide_eq_true this.1,of_decide_eq_true this.2]
 ·cases h
theorem isNN_int {v:AV}(h:isNN v=true):∃ i:Int,v=.int i/\0<=i:=by
 cases v with
 | int i=>exact⟨i,rfl,of_decide_eq_true h⟩
 | _=>cases h
theorem isNm_str {v:AV}(h:isNm v=true):∃ t,v=.str t:=by
 cases v with
 | str t=>exact⟨t,rfl⟩
 | _=>cases h
theorem isRw_inv {v:AV}(h:isRw v=true):∃ p e f w d r k g a,v=rowA p e f w d r k g a/\0<=w/\0<=d/\0<=g/\0<=a:=by
 unfold isRw at h
 split at h
 ·simp only[List.all_cons,List.all_nil,Bool.and_eq_true,and_true]at h
  obtain⟨⟨h0,h1,h2,h3,h4⟩,h5,h6,h7,h8⟩:=h
  obtain⟨p,rfl⟩:=isNm_str h0
  obtain⟨e,rfl⟩:=isFr_rat h1
  obtain⟨f,rfl⟩:=isFr_rat h2
  obtain⟨r,rfl⟩:=isFr_rat h3
  obtain⟨k,rfl⟩:=isFr_rat h4
  obtain⟨w,rfl,hw⟩:=isNN_int h5
  obtain⟨d,rfl,hd⟩:=isNN_int h6
  obtain⟨g,rfl,hg⟩:=isNN_int h7
  obtain⟨a,rfl,ha⟩:=isNN_int h8
  exact⟨p,e,f,w,d,r,k,g,a,rfl,hw,hd,hg,ha⟩
 ·cases h
theorem sz_of {s:S}{q:Rat}(h:okD 1 s (fq q)):Sz 900 q:=by
 obtain⟨_,h2⟩:=h.2 _ rfl
 exact⟨(h2 (.int q.num) (by simp)).leaf.2,(h2 (.int q.den) (by simp)).leaf.2⟩
structure RowSz (e f:Rat)(w d:Int)(r k:Rat):Prop where
 e:Sz 900 e
 f:Sz 900 f
 r:Sz 900 r
 k:Sz 900 k
 w:Fit 900 w
 d:Fit 900 d
theorem row_sz {s:S}{p:Str}{e f:Rat}{w d:Int}{r k:Rat}{g a:Int}(h:okD 2 s (rowA p e f w d r k g a)):RowSz e f w d r k:=by
 obtain⟨_,h2⟩:=h.2 _ rfl
 exact⟨sz_of (h2 (fq e) (by simp)),sz_of (h2 (fq f) (by simp)),sz_of (h2 (fq r) (by simp)),sz_of (h2 (fq k) (by simp)),(h2 (.int w) (by simp)).leaf.2,(h2 (.int d) (by simp)).leaf.2⟩
theorem sumOk3:∀ (l:List Rat)(a:Rat)(m:Nat),Sz m a->(∀ q∈l,Sz 901 q)->m+902 * l.length<=4400->SumOk 4400 a l
 | [],a,m,h,_,hm=>h.mono (by simp at hm;omega)
 | q :: r,a,m,h,hq,hm=>by
  simp only[List.length_cons]at hm
  exact⟨h.mono (by omega),(hq q (.head _)).mono (by omega),sumOk3 r (a+q) (m+901+1) (h.add (hq q (.head _))) (λ x hx=>hq x (.tail _ hx)) (by omega)⟩
theorem sz02:Sz 2 (0:Rat):=⟨fitI (by decide) (by decide),fitI (by decide) (by decide)⟩
theorem sumQ_sz:∀ l:List Rat,(∀ q∈l,Sz 901 q)->Sz (902 * l.length+2) (sumQ l)
 | [],_=>sz02
 | q :: r,h=>((h q (.head _)).add (sumQ_sz r λ x hx=>h x (.tail _ hx))).mono (by simp only[List.length_cons];omega)
theorem sz_int {i:Int}{n:Nat}(h:Fit n i)(hn:2<=n):Sz n (i:Rat):=⟨h,(show Fit n (1:Int) from(fitI (n:=2) (by decide) (by decide)).mono hn)⟩
theorem low_fq3 (q:Rat)(n:Nat):(fq q).low n=true:=by simp[fq,AV.low,lowL]
theorem lLst_ok {r:Evs}{env:En}{s:S}{vs:List AV}(h:r env s=.ok vs s)(hl:vs.length<=1000):lLst r env s=.ok vs s:=by
 unfold lLst
 rw[h,bind_ok',if_pos (Nat.le_of_lt (small1000 hl))]
theorem tup_ok {r:Evs}{env:En}{s:S}{vs:List AV}(h:r env s=.ok vs s)(hl:vs.length<=1000):mTup r env s=.ok (.tup vs) s:=by
 unfold mTup
 rw[h,bind_ok',if_pos (Nat.le_of_lt (small1000 hl))]
theorem gsum {F:List AV->S->R AV}{L:Evs}{env:En}{s:S}{l:List Rat}(hL:L env s=.ok (l.map fq) s) (hF:∀ st v gs,Wlk st v (l.map fq) gs->F [v] st=.ok (fq (sumQ l)) st):gcE (mCall 1 F (pCons (mNew L) pNil)) env s=.ok (fq (sumQ l)) s:=by
 have e1:mNew L env s=.ok (.ref s.length) (s++[.lst (l.map fq)]):=by unfold mNew;rw[hL];rfl
 have e2:mCall 1 F (pCons (mNew L) pNil) env s=.ok (fq (sumQ l)) (s++[.lst (l.map fq)]):=by
  unfold mCall pCons pNil
  rw[e1]
  exact hF _ _ _ (.ref (lst_last s _))
 unfold gcE
 rw[e2,bind_ok',if_pos ⟨by rw[List.take_left'] ;rfl,low_fq3 _ _⟩]
theorem is_less_eq {p q:Rat}(s:S)(h:Sz 901 p)(k:Sz 901 q):f_is_less [fq p,fq q] s=.ok (.bl (decide (p.num * q.den < q.num * p.den))) s:=
 fn_rt (ret_ok (bin_ok (bin_ok rfl rfl (mul_ok (big_of h.a (by decide)) (big_of k.b (by decide)))) (bin_ok rfl rfl (mul_ok (big_of k.a (by decide)) (big_of h.b (by decide)))) rfl))
theorem neq_fq (s:S)(p q:Rat):opNe (fq p) (fq q) s=.ok (.bl (!decide (p=q))) s:=by unfold opNe;rw[eq_fq];rfl
def goes (r0 k0 e f:Rat)(w d:Int)(r k:Rat)(g a:Int):Bool:=
 decide (sumQ [r,k]=sumQ [r0,k0,e] - ((w+d:Int):Rat)) && decide (0<=f.num) && !decide (k0.num * f.den < f.num * k0.den) && decide (0<=k.num) && decide (r.num < r.den) && (decide (d=0) || (decide (g=0) && decide (a=0)))
theorem less0 (f:Rat):decide (f.num * (0:Rat).den < (0:Rat).num * f.den)=!decide (0<=f.num):=by
 rw[<-decide_not]
 apply decide_eq_decide.mpr
 show f.num * 1 < 0 * (f.den:Int) ↔ _
 rw[Int.mul_one,Int.zero_mul];omega
theorem less1 (r:Rat):decide (r.num * (1:Rat).den < (1:Rat).num * r.den)=decide (r.num < r.den):=by
 apply decide_eq_decide.mpr
 show r.num * 1 < 1 * (r.den:Int) ↔ _
 rw[Int.mul_one,Int.one_mul]
theorem stands_eq {p0 p:Str}{e0 f0:Rat}{w0 d0:Int}{r0 k0:Rat}{g0 a0:Int}{e f:Rat}{w d:Int}{r k:Rat}{g a:Int}(s:S)(h0:RowSz e0 f0 w0 d0 r0 k0)(h:RowSz e f w d r k)(hg:0<=g)(ha:0<=a) :
  f_stands_behind [rowA p0 e0 f0 w0 d0 r0 k0 g0 a0,rowA p e f w d r k g a] s=.ok (.bl (goes r0 k0 e f w d r k g a)) s:=by
 have u:∀ {q:Rat},Sz 900 q->Sz 901 q:=λ h=>h.mono (by decide)
 have ul:∀ {l:List Rat},(∀ q∈l,Sz 900 q)->∀ q∈l,Sz 901 q:=λ h q hq=>u (h q hq)
 let E:En:=[some (rowA p0 e0 f0 w0 d0 r0 k0 g0 a0),some (rowA p e f w d r k g a),none,some (fq r0),some (fq k0),some (.str p),some (fq e),some (fq f),some (.int w),some (.int d),some (fq r),some (fq k),some (.int g),some (.int a)]
 have m3:∀ q∈[r0,k0,e],Sz 900 q:=by
  intro q hq
  simp only[List.mem_cons,List.not_mem_nil,or_false]at hq
  rcases hq with rfl|rfl|rfl
  ·exact h0.r
  ·exact h0.k
  ·exact h.e
 have m2:∀ q∈[r,k],Sz 900 q:=by
  intro q hq
  simp only[List.mem_cons,List.not_mem_nil,or_false]at hq
  rcases hq with rfl|rfl
  ·exact h.r
  ·exact h.k
 have s3:gcE (mCall 1 f_sum_of (pCons (mNew (lLst (pCons (mv 3) (pCons (mv 4) (pCons (mv 6) pNil))))) pNil)) E s=.ok (fq (sumQ [r0,k0,e])) s:=
  gsum (l:=[r0,k0,e]) (lLst_ok rfl (by simp)) λ st v gs hw=>sum_eq (by decide:4400<=9000) hw (sumOk3 _ 0 2 sz02 (ul m3) (by simp))
 have due:mCall 2 f_taken_from (pCons (mTup (pCons (mBin opAdd (mv 8) (mv 9)) (pCons (mc (.int 1)) pNil))) (pCons (gcE (mCall 1 f_sum_of (pCons (mNew (lLst (pCons (mv 3) (pCons (mv 4) (pCons (mv 6) pNil))))) pNil))) pNil)) E s=.ok (fq (sumQ [r0,k0,e] - ((w+d:Int):Rat))) s:=by
  refine call2 (v:=fq ((w+d:Int):Rat)) ?_ s3 ?_
  ·exact tup_ok (vs:=[.int (w+d),.int 1]) rfl (by simp)
  ·exact taken_eq (by decide:3000<=9000) ((sz_int (h.w.add h.d) (by decide)).mono (by decide)) ((sumQ_sz _ (ul m3)).mono (by simp)) s
 let E2:En:=[some (rowA p0 e0 f0 w0 d0 r0 k0 g0 a0),some (rowA p e f w d r k g a),some (fq (sumQ [r0,k0,e] - ((w+d:Int):Rat))),some (fq r0),some (fq k0),some (.str p),some (fq e),some (fq f),some (.int w),some (.int d),some (fq r),some (fq k),some (.int g),some (.int a)]
 have s2:gcE (mCall 1 f_sum_of (pCons (mNew (lLst (pCons (mv 10) (pCons (mv 11) pNil)))) pNil)) E2 s=.ok (fq (sumQ [r,k])) s:=
  gsum (l:=[r,k]) (lLst_ok rfl (by simp)) λ st v gs hw=>sum_eq (by decide:4400<=9000) hw (sumOk3 _ 0 2 sz02 (ul m2) (by simp))
 have c1:cB (mBin opNe (gcE (mCall 1 f_sum_of (pCons (mNew (lLst (pCons (mv 10) (pCons (mv 11) pNil)))) pNil))) (mv 2)) E2 s=.ok (!decide (sumQ [r,k]=sumQ [r0,k0,e] - ((w+d:Int):Rat))) s:=b_ok (bin_ok s2 rfl (neq_fq s _ _))
 have z0:Sz 901 (0:Rat):=sz02.mono (by decide)
 have z1:Sz 901 (1:Rat):=⟨(fitI (n:=2) (by decide) (by decide)).mono (by decide),(fitI (n:=2) (by decide) (by decide)).mono (by decide)⟩
 have c2:cOr (cT (mCall 2 f_is_less (pCons (mv 7) (pCons (mc k_NOTHING) pNil)))) (cT (mCall 2 f_is_less (pCons (mv 4) (pCons (mv 7) pNil)))) E2 s=.ok (decide (f.num * (0:Rat).den < (0:Rat).num * f.den) || decide (k0.num * f.den < f.num * k0.den)) s:=
  or_ok (t_ok (call2 rfl rfl (is_less_eq s (u h.f) z0))) λ _=>t_ok (call2 rfl rfl (is_less_eq s (u h0.k) (u h.f)))
 have c3:cOr (cT (mCall 2 f_is_less (pCons (mv 11) (pCons (mc k_NOTHING) pNil)))) (cNot (cT (mCall 2 f_is_less (pCons (mv 10) (pCons (mc k_ONE) pNil))))) E2 s=.ok (decide (k.num * (0:Rat).den < (0:Rat).num * k.den) || !decide (r.num * (1:Rat).den < (1:Rat).num * r.den)) s:=
  or_ok (t_ok (call2 rfl rfl (is_less_eq s (u h.k) z0))) λ _=>not_ok (t_ok (call2 rfl rfl (is_less_eq s (u h.r) z1)))
 have c4:mOr (mBin opEq (mv 9) (mc (.int 0))) (mChain opEq opEq (mv 12) (mv 13) (mc (.int 0))) E2 s=.ok (.bl (decide (d=0) || (decide (g=a) && decide (a=0)))) s:=
  orE_ok (bin_ok rfl rfl rfl) λ _=>chain_ok rfl rfl rfl rfl rfl
 have all:=if_ok c1 λ _=>if_ok c2 λ _=>if_ok c3 λ _=>ret_ok c4
 refine fn_rt ?_
 refine Eq.trans (show _=sSeq (sSet 2 (mCall 2 f_taken_from (pCons (mTup (pCons (mBin opAdd (mv 8) (mv 9)) (pCons (mc (.int 1)) pNil))) (pCons (gcE (mCall 1 f_sum_of (pCons (mNew (lLst (pCons (mv 3) (pCons (mv 4) (pCons (mv 6) pNil))))) pNil))) pNil)))) _ E s from rfl) ?_
 have e2:sSet 2 (mCall 2 f_taken_from (pCons (mTup (pCons (mBin opAdd (mv 8) (mv 9)) (pCons (mc (.int 1)) pNil))) (pCons (gcE (mCall 1 f_sum_of (pCons (mNew (lLst (pCons (mv 3) (pCons (mv 4) (pCons (mv 6) pNil))))) pNil))) pNil))) E s=.nx E2 s:=by
  unfold sSet
  rw[due];rfl
 unfold sSeq
 rw[e2]
 refine all.trans ?_
 unfold goes
 have y1:=less0 f
 have y2:=less0 k
 have y3:=less1 r
 have y4:(decide (g=a) && decide (a=0))=(decide (g=0) && decide (a=0)):=by
  by_cases h1:a=0
  ·subst h1;rfl
  ·simp[h1]
 rw[y1,y2,y3,y4]
 generalize decide (sumQ [r,k]=_)=b1
 generalize decide (0<=f.num)=b2
 generalize decide (k0.num * _ < _)=b3
 generalize decide (0<=k.num)=b4
 generalize decide (r.num < _)=b5
 cases b1<;>cases b2<;>cases b3<;>cases b4<;>cases b5<;>rfl
theorem sum4 (a b c:Rat)(w d:Int):sumQ [a,b,c,((-w - d:Int):Rat)]=sumQ [a,b,c] - ((w+d:Int):Rat):=by
 have e:((-w - d:Int):Rat)=-((w+d:Int):Rat):=by
  rw[show(-w - d:Int)=-(w+d) by omega,Rat.intCast_neg]
 rw[e]
 simp only[sumQ,Rat.sub_eq_add_neg,Rat.add_assoc,Rat.add_zero]
theorem goes_eq {p0 p:Str}{e0 f0:Rat}{w0 d0:Int}{r0 k0:Rat}{g0 a0:Int}{e f:Rat}{w d:Int}{r k:Rat}{g a:Int}(s:S)(h0:RowSz e0 f0 w0 d0 r0 k0)(h:RowSz e f w d r k)(hg:0<=g)(ha:0<=a) :
  f__law_goes_on [rowA p0 e0 f0 w0 d0 r0 k0 g0 a0,rowA p e f w d r k g a] s=.ok (.bl (goes r0 k0 e f w d r k g a)) s:=by
 have u:∀ {q:Rat},Sz 900 q->Sz 901 q:=λ h=>h.mono (by decide)
 let E:En:=[some (rowA p0 e0 f0 w0 d0 r0 k0 g0 a0),some (rowA p e f w d r k g a),none]
 have m4:∀ q∈[r0,k0,e,((-w - d:Int):Rat)],Sz 901 q:=by
  intro q hq
  simp only[List.mem_cons,List.not_mem_nil,or_false]at hq
  rcases hq with rfl|rfl|rfl|rfl
  ·exact u h0.r
  ·exact u h0.k
  ·exact u h.e
  ·refine sz_int ?_ (by decide)
   rw[show -w - d=-w+-d by omega]
   exact h.w.neg.add h.d.neg
 have m2:∀ q∈[r,k],Sz 901 q:=by
  intro q hq
  simp only[List.mem_cons,List.not_mem_nil,or_false]at hq
  rcases hq with rfl|rfl
  ·exact u h.r
  ·exact u h.k
 have lst4:pCons (mBin opIx (mv 0) (mc (.int 5))) (pCons (mBin opIx (mv 0) (mc (.int 6))) (pCons (mBin opIx (mv 1) (mc (.int 1))) (pCons (mTup (pCons (mBin opSub (mUn opNeg (mBin opIx (mv 1) (mc (.int 3)))) (mBin opIx (mv 1) (mc (.int 4)))) (pCons (mc (.int 1)) pNil))) pNil))) E s=.ok ([r0,k0,e,((-w - d:Int):Rat)].map fq) s:=by
  have t:=tup_ok (r:=pCons (mBin opSub (mUn opNeg (mBin opIx (mv 1) (mc (.int 3)))) (mBin opIx (mv 1) (mc (.int 4)))) (pCons (mc (.int 1)) pNil)) (env:=E) (s:=s) (vs:=[.int (-w - d),.int 1]) rfl (by simp)
  have e5:mBin opIx (mv 0) (mc (.int 5)) E s=.ok (fq r0) s:=rfl
  have e6:mBin opIx (mv 0) (mc (.int 6)) E s=.ok (fq k0) s:=rfl
  have e1:mBin opIx (mv 1) (mc (.int 1)) E s=.ok (fq e) s:=rfl
  unfold pCons
  rw[e5,bind_ok',e6,bind_ok',e1,bind_ok']
  unfold pCons at t
  rw[t]
  rfl
 have s4:=gsum (F:=f__law_sum) (l:=[r0,k0,e,((-w - d:Int):Rat)]) (lLst_ok lst4 (by simp)) λ st v gs hw=>lsum_eq (by decide:4400<=4400) hw (sumOk3 _ 0 2 sz02 m4 (by simp))
 rw[sum4]at s4
 let E2:En:=[some (rowA p0 e0 f0 w0 d0 r0 k0 g0 a0),some (rowA p e f w d r k g a),some (fq (sumQ [r0,k0,e] - ((w+d:Int):Rat)))]
 have s2:gcE (mCall 1 f__law_sum (pCons (mNew (lLst (pCons (mBin opIx (mv 1) (mc (.int 5))) (pCons (mBin opIx (mv 1) (mc (.int 6))) pNil)))) pNil)) E2 s=.ok (fq (sumQ [r,k])) s:=
  gsum (l:=[r,k]) (lLst_ok rfl (by simp)) λ st v gs hw=>lsum_eq (by decide:4400<=4400) hw (sumOk3 _ 0 2 sz02 m2 (by simp))
 have b:∀ {i:Int},Fit 900 i->Big i:=λ h=>big_of h (by decide)
 have f0:mBin opIx (mBin opIx (mv 1) (mc (.int 2))) (mc (.int 0)) E2 s=.ok (.int f.num) s:=rfl
 have f1:mBin opIx (mBin opIx (mv 1) (mc (.int 2))) (mc (.int 1)) E2 s=.ok (.int f.den) s:=rfl
 have k1:mBin opIx (mBin opIx (mv 1) (mc (.int 6))) (mc (.int 0)) E2 s=.ok (.int k.num) s:=rfl
 have q0:mBin opIx (mBin opIx (mv 0) (mc (.int 6))) (mc (.int 0)) E2 s=.ok (.int k0.num) s:=rfl
 have q1:mBin opIx (mBin opIx (mv 0) (mc (.int 6))) (mc (.int 1)) E2 s=.ok (.int k0.den) s:=rfl
 have t0:mBin opIx (mBin opIx (mv 1) (mc (.int 5))) (mc (.int 0)) E2 s=.ok (.int r.num) s:=rfl
 have t1:mBin opIx (mBin opIx (mv 1) (mc (.int 5))) (mc (.int 1)) E2 s=.ok (.int r.den) s:=rfl
 have c1:=or_ok (b_ok (bin_ok s2 (show mv 2 E2 s=_ from rfl) (neq_fq s _ _))) λ _=>or_ok (b_ok (bin_ok (op:=opLt) (m2:=mc (.int 0)) f0 rfl rfl)) λ _=>b_ok (bin_ok (op:=opLt) (m2:=mc (.int 0)) k1 rfl rfl)
 have c2:=or_ok (b_ok (bin_ok (op:=opGt) (bin_ok f0 q1 (mul_ok (b h.f.a) (b h0.k.b))) (bin_ok q0 f1 (mul_ok (b h0.k.a) (b h.f.b))) rfl)) λ _=>b_ok (bin_ok (op:=opGe) t0 t1 rfl)
 have c4:mOr (mBin opEq (mBin opIx (mv 1) (mc (.int 4))) (mc (.int 0))) (mBin opEq (mBin opAdd (mBin opIx (mv 1) (mc (.int 7))) (mBin opIx (mv 1) (mc (.int 8)))) (mc (.int 0))) E2 s=.ok (.bl (decide (d=0) || decide (g+a=0))) s:=
  orE_ok rfl λ _=>rfl
 have all:=if_ok c1 λ _=>if_ok c2 λ _=>ret_ok c4
 refine fn_rt ?_
 have e2:sSet 2 (gcE (mCall 1 f__law_sum (pCons (mNew (lLst (pCons (mBin opIx (mv 0) (mc (.int 5))) (pCons (mBin opIx (mv 0) (mc (.int 6))) (pCons (mBin opIx (mv 1) (mc (.int 1))) (pCons (mTup (pCons (mBin opSub (mUn opNeg (mBin opIx (mv 1) (mc (.int 3)))) (mBin opIx (mv 1) (mc (.int 4)))) (pCons (mc (.int 1)) pNil))) pNil)))))) pNil))) E s=.nx E2 s:=by
  unfold sSet
  rw[s4];rfl
 show sSeq _ _ E s=_
 unfold sSeq
 rw[e2]
 refine all.trans ?_
 unfold goes
 have y1:decide (f.num < 0)=!decide (0<=f.num):=by rw[<-decide_not];apply decide_eq_decide.mpr;omega
 have y2:decide (k.num < 0)=!decide (0<=k.num):=by rw[<-decide_not];apply decide_eq_decide.mpr;omega
 have y3:decide ((r.den:Int)<=r.num)=!decide (r.num < r.den):=by rw[<-decide_not];apply decide_eq_decide.mpr;omega
 have y4:decide (g+a=0)=(decide (g=0) && decide (a=0)):=by
  rw[Bool.eq_iff_iff];simp;omega
 rw[y1,y2,y3,y4]
 generalize decide (sumQ [r,k]=_)=b1
 generalize decide (0<=f.num)=b2
 generalize decide (k0.num * _ < _)=b3
 generalize decide (0<=k.num)=b4
 generalize decide (r.num < _)=b5
 cases b1<;>cases b2<;>cases b3<;>cases b4<;>cases b5<;>rfl
def nmOf:AV->Str
 | .tup (.str t :: _)=>t
 | _=>""
def ltS (a b:Str):Bool:=decide (a.cps.toList < b.cps.toList)
theorem ltS_le (a b:Str):ltS a b=!leS b a:=by unfold ltS leS;simp
theorem ltS_to {a b:Str}(h:ltS a b=true):leS a b=true:=leS_total _ _ (by rw[ltS_le]at h;simpa using h)
theorem ltS_trans {a b c:Str}(h:ltS a b=true)(k:ltS b c=true):ltS a c=true:=by
 rw[ltS_le]
 cases q:leS c a with
 | false=>rfl
 | true=>
  have:=leS_trans q (ltS_to h)
  rw[ltS_le,this]at k;cases k
theorem ltS_ne {a b:Str}(h:ltS a b=true):a≠b:=by
 rintro rfl
 rw[ltS_le,leS_refl]at h;cases h
def rises:List Str->Bool
 | a :: b :: r=>ltS a b && rises (b :: r)
 | _=>true
theorem rises_pair:∀ {l:List Str},rises l=true->l.Pairwise (λ a b=>ltS a b=true)
 | [],_=>.nil
 | [a],_=>List.pairwise_singleton _ _
 | a :: b :: r,h=>by
  obtain⟨h1,h2⟩:=Bool.and_eq_true_iff.mp h
  have ih:=rises_pair h2
  refine List.pairwise_cons.mpr ⟨λ x hx=>?_,ih⟩
  rcases List.mem_cons.mp hx with rfl|hx
  ·exact h1
  ·exact ltS_trans h1 ((List.pairwise_cons.mp ih).1 x hx)
theorem pair_rises:∀ {l:List Str},l.Pairwise (λ a b=>ltS a b=true)->rises l=true
 | [],_=>rfl
 | [a],_=>rfl
 | a :: b :: r,h=>Bool.and_eq_true_iff.mpr ⟨(List.pairwise_cons.mp h).1 b (.head _),pair_rises (List.pairwise_cons.mp h).2⟩
theorem fold_nd {K:Type} [DecidableEq K]:∀ (l ks:List K),(ks++l).Nodup->l.foldl Sx.insK ks=ks++l
 | [],ks,_=>by simp
 | a :: r,ks,h=>by
  have ha:a∉ks:=λ q=>(List.nodup_append.mp h).2.2 a q a (.head _) rfl
  show r.foldl Sx.insK (Sx.insK ks a)=_
  rw[show Sx.insK ks a=ks++[a] from if_neg ha,fold_nd r (ks++[a]) (by simpa using h)]
  simp
theorem fold_nodup {K:Type} [DecidableEq K]:∀ (l ks:List K),ks.Nodup->(l.foldl Sx.insK ks).Nodup
 | [],_,h=>h
 | a :: r,ks,h=>fold_nodup r _ (Sx.insK_nodup h)
theorem rises_iff (l:List Str):rises l=decide (l=sortS (Sx.uniq l)):=by
 rw[Bool.eq_iff_iff,decide_eq_true_iff]
 constructor
 ·intro h
  have p:=rises_pair h
  have nd:l.Nodup:=p.imp λ h=>ltS_ne h
  rw[show Sx.uniq l=l from(fold_nd l [] (by simpa using nd)).trans (List.nil_append _)]
  exact sortS_uniq (.refl _) (p.imp λ h=>ltS_to h)
 ·intro h
  have nd:l.Nodup:=by
   rw[h]
   exact(sortS_perm _).nodup_iff.mpr (fold_nodup l [] .nil)
  have p:l.Pairwise (λ x y=>leS x y=true):=by rw[h];exact sortS_sorted _
  refine pair_rises ((p.and nd).imp λ {a b} h=>?_)
  rw[ltS_le]
  cases q:leS b a with
  | false=>rfl
  | true=>exact absurd (leS_anti h.1 q) h.2
theorem zip_rises:∀ l:List Str,((l.zip (l.drop 1)).all λ p=>ltS p.1 p.2)=rises l
 | []=>rfl
 | [a]=>rfl
 | a :: b :: r=>by
  have:=zip_rises (b :: r)
  simp only[List.drop_succ_cons,List.drop_zero]at this ⊢
  rw[List.zip_cons_cons,List.all_cons,this]
  rfl
def isSq:AV->Bool
 | .sq _=>true
 | _=>false
structure okT (s:S)(v:AV):Prop where
 leaf:leafOk s v
 sq:isSq v=false
 rows:∀ xs,items v s=some xs->xs.length<=60/\∀ x∈xs,okD 2 s x
def isTab (s:S)(v:AV):Bool:=match items v s with
 | some xs=>xs.all isRw && rises (xs.map nmOf)
 | none=>false
theorem tag_app {s z:S}{v:AV}{t:String}(h:tagOf v s=some t):tagOf v (s++z)=some t:=by
 cases v with
 | ref i=>
  simp only[tagOf]at h ⊢
  cases e:s[i]? with
  | none=>rw[e]at h;cases h
  | some o=>rw[List.getElem?_append_left (List.getElem?_eq_some_iff.mp e).1,e];rw[e]at h;exact h
 | _=>exact h
theorem leaf_app {s z:S}{v:AV}(h:leafOk s v):leafOk (s++z) v:=by
 obtain⟨⟨t,ht⟩,h⟩:=h
 exact⟨⟨t,tag_app ht⟩,h⟩
theorem okD_app {s z:S}:∀ {n:Nat}{v:AV},okD n s v->okD n (s++z) v
 | 0,_,h=>leaf_app h
 | n+1,v,h=>⟨leaf_app h.1,λ xs e=>⟨(h.2 xs e).1,λ x hx=>okD_app ((h.2 xs e).2 x hx)⟩⟩
theorem items_app {s z:S}{v:AV}(h:leafOk s v):items v (s++z)=items v s:=by
 cases v with
 | ref i=>
  obtain⟨⟨t,ht⟩,_⟩:=h
  simp only[tagOf]at ht
  show lstO (s++z) i=lstO s i
  cases e:s[i]? with
  | none=>rw[e]at ht;cases ht
  | some o=>unfold lstO;rw[List.getElem?_append_left (List.getElem?_eq_some_iff.mp e).1,e]
 | _=>rfl
theorem okT_app {s z:S}{v:AV}(h:okT s v):okT (s++z) v:=by
 refine⟨leaf_app h.leaf,h.sq,λ xs e=>?_⟩
 rw[items_app h.leaf]at e
 exact⟨(h.rows xs e).1,λ x hx=>okD_app ((h.rows xs e).2 x hx)⟩
theorem isTab_app {s z:S}{v:AV}(h:leafOk s v):isTab (s++z) v=isTab s v:=by unfold isTab;rw[items_app h]
theorem lt_ok {s:S}{v:AV}{m:Ev}{env:En}(h:leafOk s v)(e:m env s=.ok v s):mUn opIsLT m env s=.ok (.bl (items v s).isSome) s:=by
 refine un_ok e ?_
 obtain⟨⟨t,ht⟩,_⟩:=h
 unfold opIsLT
 rw[ht]
 show R.ok (AV.bl (isLT t)) s=_
 congr 2
 cases v with
 | ref i=>
  simp only[tagOf]at ht
  show _=(lstO s i).isSome
  unfold lstO
  cases e:s[i]? with
  | none=>rw[e]at ht;cases ht
  | some o=>rw[e]at ht;cases o<;>first|(cases ht;rfl)|cases ht
 | _=>cases ht;rfl
theorem src_ok {s:S}{v:AV}{xs:List AV}{m:Ev}{env:En}(h:items v s=some xs)(e:m env s=.ok v s):∃ gs,srcV' m env s=.ok (xs,gs) s/\gOk gs s:=by
 unfold srcV'
 rw[e,bind_ok']
 cases v with
 | tup ys=>cases h;exact⟨[],rfl,gOk_nil s⟩
 | sq ys=>cases h;exact⟨[],rfl,gOk_nil s⟩
 | ref i=>
  have h:lstO s i=some xs:=h
  refine⟨[(i,xs)],?_,(Mm.gOk_one i xs s).mpr h⟩
  show need (lstO s i) _=_
  rw[h];rfl
 | _=>cases h
theorem rows_ok {F:List AV->S->R AV}{l:Lc}{s:S}{v:AV}{xs:List AV}{m:Ev}{env:En}(hv:okT s v)(h:items v s=some xs)(e:m env s=.ok v s)(e2:srcE l env=[none])(hF:∀ x,okD 2 s x->F [x] s=.ok (.bl (isRw x)) s) :
  gOp qAll (lComp l (srcV' m) (gN 0) cYes (mCall 1 F (pCons (mv 0) pNil))) env s=.ok (.bl (xs.all isRw)) s:=by
 obtain⟨gs,e1,hg⟩:=src_ok h e
 obtain⟨h60,hr⟩:=hv.rows xs h
 exact all_map isRw e1 (Nat.le_of_lt (small1000 (by omega))) hg e2 λ x hx=>call1 rfl (hF x (hr x hx))
theorem comp_map2 {elt:Ev}{gs:Gd}{s:S}(g:AV->AV->AV)(hg:gOk gs s):∀ (xs:List (AV × AV)) (acc:List AV) (x y:Option AV),(∀ p∈xs,elt [some p.1,some p.2] s=.ok (g p.1 p.2) s)->compL (gT 2 (gCons' (gN 0) (gCons' (gN 1) gNil'))) cYes elt gs (xs.map λ p=>.tup [p.1,p.2]) [x,y] s acc=.ok (acc++xs.map λ p=>g p.1 p.2) s
 | [],acc,x,y,_=>by unfold compL;simp only[List.map_nil];rw[if_pos hg];simp
 | p :: r,acc,x,y,h=>by
  simp only[List.map_cons]
  unfold compL
  rw[if_pos hg]
  show((elt [some p.1,some p.2] s).calm.bind λ x s3=>compL (gT 2 (gCons' (gN 0) (gCons' (gN 1) gNil'))) cYes elt gs (r.map λ p=>.tup [p.1,p.2]) [some p.1,some p.2] s3 (acc++[x]))=_
  rw[h p (.head _)]
  show compL (gT 2 (gCons' (gN 0) (gCons' (gN 1) gNil'))) cYes elt gs (r.map λ p=>.tup [p.1,p.2]) [some p.1,some p.2] s (acc++[g p.1 p.2])=_
  rw[comp_map2 g hg r _ _ _ λ w hw=>h w (.tail _ hw)]
  simp
theorem all_map2 {l:Lc}{src:Src}{elt:Ev}{env:En}{s s1:S}{xs:List (AV × AV)}{gs:Gd}(f:AV->AV->Bool)(e1:src env s=.ok (xs.map λ p=>AV.tup [p.1,p.2],gs) s1) (hl:xs.length<=1000)(hg:gOk gs s1)(e2:srcE l env=[none,none])(h:∀ p∈xs,elt [some p.1,some p.2] s1=.ok (.bl (f p.1 p.2)) s1) :
  gOp qAll (lComp l src (gT 2 (gCons' (gN 0) (gCons' (gN 1) gNil'))) cYes elt) env s=.ok (.bl (xs.all λ p=>f p.1 p.2)) s1:=by
 unfold gOp lComp
 rw[e1,bind_ok,if_pos (by simp only[List.length_map];exact Nat.le_of_lt (small1000 hl)),e2,comp_map2 (λ a b=>.bl (f a b)) hg xs [] none none h]
 show(need (blsO (xs.map λ p=>AV.bl (f p.1 p.2))) λ ns=>R.ok (AV.bl (ns.all id)) s1)=_
 have:∀ l:List (AV × AV),blsO (l.map λ p=>AV.bl (f p.1 p.2))=some (l.map λ p=>f p.1 p.2):=by
  intro l
  induction l with
  | nil=>rfl
  | cons p r ih=>simp only[List.map_cons,blsO,ih];rfl
 rw[this]
 show R.ok (AV.bl ((xs.map λ p=>f p.1 p.2).all id)) s1=_
 rw[List.all_map];rfl
theorem cut1' {α:Type}(x:α)(xs:List α):cutA (x :: xs) (some 1) none=xs:=by
 unfold cutA
 have h1:HT.sIx (x :: xs).length 0 (some 1)=1:=by unfold HT.sIx;simp
 have h2:HT.sIx (x :: xs).length (x :: xs).length none=(x :: xs).length:=rfl
 rw[h1,h2]
 simp
theorem cutD {α:Type}(xs:List α):cutA xs (some 1) none=xs.drop 1:=by
 cases xs with
 | nil=>rfl
 | cons x r=>exact cut1' x r
theorem sl_ok {s:S}{v:AV}{xs:List AV}(hq:isSq v=false)(h:items v s=some xs):∃ w z gs,mSl (mv 0) (oS (mc (.int 1))) oN [some v] s=.ok w (s++z)/\zipM v w (s++z)=some ((xs.zip (xs.drop 1)).map λ p=>AV.tup [p.1,p.2],gs)/\gOk gs (s++z):=by
 cases v with
 | tup ys=>
  cases h
  refine⟨.tup (cutA xs (some 1) none),[],[],by rw[List.append_nil];rfl,?_,gOk_nil _⟩
  rw[cutD]
  rfl
 | ref i=>
  have h:lstO s i=some xs:=h
  refine⟨.ref s.length,[.lst (xs.drop 1)],[(i,xs),(s.length,xs.drop 1)],?_,?_,?_⟩
  ·show(need (lstO s i) λ xs=>R.ok (AV.ref s.length) (s++[.lst (cutA xs (some 1) none)]))=_
   rw[h,<-cutD];rfl
  ·have e1:seqK (kindOf (.ref i)) (.ref i) (s++[.lst (xs.drop 1)])=some (xs,[(i,xs)]):=by
    show(lstO (s++[.lst (xs.drop 1)]) i).map _=_
    rw[lst_old h];rfl
   have e2:seqK (kindOf (.ref s.length)) (.ref s.length) (s++[.lst (xs.drop 1)])=some (xs.drop 1,[(s.length,xs.drop 1)]):=by
    show(lstO (s++[.lst (xs.drop 1)]) s.length).map _=_
    rw[lst_last];rfl
   unfold zipM
   rw[if_neg (by simp[kindOf]),e1,e2]
   rfl
  ·intro p hp
   simp only[List.mem_cons,List.not_mem_nil,or_false]at hp
   rcases hp with rfl|rfl
   ·exact lst_old h
   ·exact lst_last _ _
 | sq ys=>cases hq
 | _=>cases h
theorem nm_ix {x:AV}(h:isRw x=true)(s:S):opIx x (.int 0) s=.ok (.str (nmOf x)) s:=by
 obtain⟨p,e,f,w,d,r,k,g,a,rfl,_⟩:=isRw_inv h
 rfl
theorem is_statements_eq {s:S}{v:AV}(h:okT s v):∃ z,f_is_statements [v] s=.ok (.bl (isTab s v)) (s++z):=by
 cases hi:items v s with
 | none=>
  refine⟨[],?_⟩
  rw[List.append_nil]
  unfold isTab
  rw[hi]
  refine fn_rt (if_t (or_t (not_ok (x:=false) (t_ok ?_))))
  have:=lt_ok (m:=mv 0) (env:=[some v]) h.leaf rfl
  rw[hi]at this
  exact this
 | some xs=>
  have k1:mUn opIsLT (mv 0) [some v] s=.ok (.bl true) s:=by
   have:=lt_ok (m:=mv 0) (env:=[some v]) h.leaf rfl
   rw[hi]at this
   exact this
  have k2:=rows_ok (F:=f_is_statement) (l:=[("row",none)]) (m:=mv 0) (env:=[some v]) h hi rfl rfl λ x hx=>is_statement_eq hx
  cases ha:xs.all isRw with
  | false=>
   rw[ha]at k2
   refine⟨[],?_⟩
   rw[List.append_nil]
   unfold isTab
   rw[hi]
   dsimp only
   rw[ha]
   exact fn_rt (if_t (or_f (not_ok (x:=true) (t_ok k1)) (not_ok (x:=false) (t_ok k2))))
  | true=>
   rw[ha]at k2
   obtain⟨w,z,gs,e1,e2,hg⟩:=sl_ok h.sq hi
   refine⟨z,?_⟩
   have src:srcZM (mv 0) (mSl (mv 0) (oS (mc (.int 1))) oN) [some v] s=.ok ((xs.zip (xs.drop 1)).map λ p=>AV.tup [p.1,p.2],gs) (s++z):=by
    unfold srcZM
    show((mSl (mv 0) (oS (mc (.int 1))) oN [some v] s).bind _)=_
    rw[e1,bind_ok',e2];rfl
   have hl:=(h.rows xs hi).1
   have k3:=all_map2 (l:=[("row",none),("later",none)]) (elt:=mBin opLt (mBin opIx (mv 0) (mc (.int 0))) (mBin opIx (mv 1) (mc (.int 0)))) (λ a b=>ltS (nmOf a) (nmOf b)) src (by rw[List.length_zip];omega) hg rfl λ p hp=>by
    have h1:=List.all_eq_true.mp ha p.1 (List.of_mem_zip hp).1
    have h2:=List.all_eq_true.mp ha p.2 (List.mem_of_mem_drop (List.of_mem_zip hp).2)
    exact bin_ok (bin_ok rfl rfl (nm_ix h1 _)) (bin_ok rfl rfl (nm_ix h2 _)) rfl
   have k4:((xs.zip (xs.drop 1)).all λ p=>ltS (nmOf p.1) (nmOf p.2))=rises (xs.map nmOf):=by
    rw[<-zip_rises,<-List.map_drop,List.zip_map,List.all_map]
    rfl
   rw[k4]at k3
   unfold isTab
   rw[hi]
   dsimp only
   rw[ha,Bool.true_and]
   unfold f_is_statements fnR
   show(match b_is_statements [some v] s with|.rt v s1=>R.ok v s1|.nx _ s1=>.ok .non s1|.ex c s1=>.ex c s1|_=>.bad)=_
   have:b_is_statements [some v] s=.rt (.bl (rises (xs.map nmOf))) (s++z):=by
    refine if_f (or_f (not_ok (x:=true) (t_ok k1)) (not_ok (x:=true) (t_ok k2))) ?_
    unfold sRet
    rw[k3];rfl
   rw[this]
theorem toD_strs (n:Nat)(s:S):∀ ns:List Str,(ns.map AV.str).mapM (toD n s)=some (ns.map Dt.str)
 | []=>rfl
 | a :: r=>by rw[List.map_cons,List.mapM_cons,show toD n s (.str a)=some (.str a) by unfold toD;rfl,toD_strs n s r];rfl
theorem depL_strs:∀ ns:List Str,depL (ns.map Dt.str)=0
 | []=>by simp[depL]
 | a :: r=>by simp[depL,Dt.dep,depL_strs r]
theorem eqDL_strs:∀ ns ms:List Str,eqDL (ns.map Dt.str) (ms.map Dt.str)=decide (ns=ms)
 | [],[]=>by simp[eqDL]
 | [],b :: r=>by simp[eqDL]
 | a :: r,[]=>by simp[eqDL]
 | a :: r,b :: q=>by
  simp only[List.map_cons,eqDL,eqD,eqDL_strs r q]
  by_cases h1:a=b<;>by_cases h2:r=q<;>simp[h1,h2]
theorem eqAV_strs {s:S}{i j:Nat}{ns ms:List Str}(h1:lstO s i=some (ns.map AV.str)) (h2:lstO s j=some (ms.map AV.str)):eqAV s (.ref i) (.ref j)=some (decide (ns=ms)):=by
 have t:∀ {i:Nat}{ns:List Str},lstO s i=some (ns.map AV.str)->toD 20 s (.ref i)=some (.lst (ns.map Dt.str)):=λ {i ns} h=>by
  simp only[toD,h,Option.bind_some,toD_strs,Option.map_some]
 unfold eqAV
 simp only
 rw[t h1,t h2]
 dsimp only
 rw[if_pos (by rw[depL_strs];omega),eqDL_strs]
theorem names_ok {l:Lc}{s:S}{v:AV}{xs:List AV}{m:Ev}{env:En}(hv:okT s v)(h:items v s=some xs)(hr:xs.all isRw=true)(e:m env s=.ok v s)(e2:srcE l env=[none]) :
  lComp l (srcV' m) (gN 0) cYes (mBin opIx (mv 0) (mc (.int 0))) env s=.ok ((xs.map nmOf).map AV.str) s:=by
 obtain⟨gs,e1,hg⟩:=src_ok h e
 unfold lComp
 have hl:xs.length<=sizeLine:=Nat.le_of_lt (small1000 (by have:=(hv.rows xs h).1;omega))
 rw[e1,bind_ok',if_pos hl,e2,comp_map (λ x=>.str (nmOf x)) hg xs [] none λ x hx=>bin_ok rfl rfl (nm_ix (List.all_eq_true.mp hr x hx) _)]
 simp
theorem new_ok {L:Evs}{env:En}{s:S}{xs:List AV}(h:L env s=.ok xs s):mNew L env s=.ok (.ref s.length) (s++[.lst xs]):=by unfold mNew;rw[h];rfl
theorem ne_gc {A B:Ev}{env:En}{s s1 s2:S}{v1 v2:AV}{b:Bool}(a1:A env s=.ok v1 s1)(a2:B env s1=.ok v2 s2)(a3:opNe v1 v2 s2=.ok (.bl b) s2) (t:s2.take s.length=s):gcB (cB (mBin opNe A B)) env s=.ok b s:=by
 unfold gcB cB mBin
 rw[a1,bind_ok',a2,bind_ok',a3,bind_ok',bind_ok',if_pos t]
theorem names_ne {l l2:Lc}{s:S}{v w:AV}{xs ys:List AV}{m m2:Ev}{env:En}(hv:okT s v)(hw:okT s w)(h:items v s=some xs)(k:items w s=some ys)(hr:xs.all isRw=true)(kr:ys.all isRw=true)(e:m env s=.ok v s)(e':∀ st,m2 env st=.ok w st)(e2:srcE l env=[none])(e3:srcE l2 env=[none]) :
  gcB (cB (mBin opNe (mNew (lComp l (srcV' m) (gN 0) cYes (mBin opIx (mv 0) (mc (.int 0))))) (mNew (lComp l2 (srcV' m2) (gN 0) cYes (mBin opIx (mv 0) (mc (.int 0))))))) env s=.ok (!decide (xs.map nmOf=ys.map nmOf)) s:=by
 have a1:=new_ok (names_ok (l:=l) hv h hr e e2)
 have a2:=new_ok (names_ok (l:=l2) (s:=s++[.lst ((xs.map nmOf).map AV.str)]) (okT_app hw) (by rw[items_app hw.leaf];exact k) kr (e' _) e3)
 have a3:opNe (.ref s.length) (.ref (s++[AO.lst ((xs.map nmOf).map AV.str)]).length) (s++[.lst ((xs.map nmOf).map AV.str)]++[.lst ((ys.map nmOf).map AV.str)])=.ok (.bl (!decide (xs.map nmOf=ys.map nmOf))) (s++[.lst ((xs.map nmOf).map AV.str)]++[.lst ((ys.map nmOf).map AV.str)]):=by
  unfold opNe
  rw[eqAV_strs (lst_old (lst_last s _)) (lst_last _ _)];rfl
 exact ne_gc a1 a2 a3 (by rw[List.append_assoc,List.take_left'];rfl)
def qOf:AV->Rat
 | .tup [.int a,.int b]=>Rat.divInt a b
 | _=>0
def nOf:AV->Int
 | .int i=>i
 | _=>0
def goV:AV->AV->Bool
 | .tup [_,_,_,_,_,r0,k0,_,_],.tup [_,e,f,w,d,r,k,g,a]=>goes (qOf r0) (qOf k0) (qOf e) (qOf f) (nOf w) (nOf d) (qOf r) (qOf k) (nOf g) (nOf a)
 | _,_=>false
theorem qOf_fq (q:Rat):qOf (fq q)=q:=Rat.num_divInt_den q
theorem goV_row (p0 p:Str)(e0 f0:Rat)(w0 d0:Int)(r0 k0:Rat)(g0 a0:Int)(e f:Rat)(w d:Int)(r k:Rat)(g a:Int):goV (rowA p0 e0 f0 w0 d0 r0 k0 g0 a0) (rowA p e f w d r k g a)=goes r0 k0 e f w d r k g a:=by
 show goes (qOf (fq r0)) (qOf (fq k0)) (qOf (fq e)) (qOf (fq f)) w d (qOf (fq r)) (qOf (fq k)) g a=_
 simp only[qOf_fq]
theorem both_go {s:S}{x y:AV}(hx:isRw x=true)(hy:isRw y=true)(ox:okD 2 s x)(oy:okD 2 s y):f_stands_behind [x,y] s=.ok (.bl (goV x y)) s/\f__law_goes_on [x,y] s=.ok (.bl (goV x y)) s:=by
 obtain⟨p0,e0,f0,w0,d0,r0,k0,g0,a0,rfl,_⟩:=isRw_inv hx
 obtain⟨p,e,f,w,d,r,k,g,a,rfl,_,_,hg,ha⟩:=isRw_inv hy
 rw[goV_row]
 exact⟨stands_eq s (row_sz ox) (row_sz oy) hg ha,goes_eq s (row_sz ox) (row_sz oy) hg ha⟩
theorem zip_ok {s:S}{v w:AV}{xs ys:List AV}(hv:isSq v=false)(hw:isSq w=false)(h:items v s=some xs)(k:items w s=some ys)(hk:¬ (kindOf v=false/\kindOf w=true)):∃ gs,zipM v w s=some ((xs.zip ys).map λ p=>AV.tup [p.1,p.2],gs)/\gOk gs s:=by
 have one:∀ {v:AV}{xs:List AV},isSq v=false->items v s=some xs->∃ gs,seqK (kindOf v) v s=some (xs,gs)/\gOk gs s:=by
  intro v xs hv h
  cases v with
  | tup zs=>cases h;exact⟨[],rfl,gOk_nil s⟩
  | sq zs=>cases hv
  | ref i=>
   have h:lstO s i=some xs:=h
   refine⟨[(i,xs)],?_,(Mm.gOk_one i xs s).mpr h⟩
   show(lstO s i).map _=_
   rw[h];rfl
  | _=>cases h
 obtain⟨g1,e1,o1⟩:=one hv h
 obtain⟨g2,e2,o2⟩:=one hw k
 refine⟨g1++g2,?_,λ p hp=>(List.mem_append.mp hp).elim (o1 p) (o2 p)⟩
 unfold zipM
 rw[if_neg hk,e1,e2]
 rfl
def shownB (s:S)(v w:AV):Bool:=isTab s v && (isTab s w && (decide ((items v s).map (List.map nmOf)=(items w s).map (List.map nmOf)) && match items v s,items w s with
 | some xs,some ys=>(xs.zip ys).all λ p=>goV p.1 p.2
 | _,_=>false))
theorem gcall1 {F:List AV->S->R AV}{m:Ev}{env:En}{s z:S}{v:AV}{b:Bool}(e:m env s=.ok v s)(h:F [v] s=.ok (.bl b) (s++z)):gcE (mCall 1 F (pCons m pNil)) env s=.ok (.bl b) s:=by
 have e1:mCall 1 F (pCons m pNil) env s=.ok (.bl b) (s++z):=by
  unfold mCall pCons pNil
  rw[e];exact h
 unfold gcE
 rw[e1,bind_ok',if_pos ⟨by rw[List.take_left'] ;rfl,rfl⟩]
theorem tab_inv {s:S}{v:AV}(h:isTab s v=true):∃ xs,items v s=some xs/\xs.all isRw=true/\rises (xs.map nmOf)=true:=by
 unfold isTab at h
 split at h
 ·rename_i xs e;obtain⟨h1,h2⟩:=Bool.and_eq_true_iff.mp h;exact⟨xs,e,h1,h2⟩
 ·cases h
def Pair (s:S)(v w:AV):Prop:=∀ xs ys,items v s=some xs->items w s=some ys->xs.map nmOf=ys.map nmOf->¬ (kindOf v=false/\kindOf w=true)
theorem pairs_eq {F:List AV->S->R AV}{l:Lc}{s:S}{v w:AV}{xs ys:List AV}{m m2:Ev}{env:En}(hv:okT s v)(hw:okT s w)(h:items v s=some xs)(k:items w s=some ys)(hr:xs.all isRw=true)(kr:ys.all isRw=true)(hk:¬ (kindOf v=false/\kindOf w=true)) (e:m env s=.ok v s)(e':m2 env s=.ok w s)(e2:srcE l env=[none,none])
  (hF:∀ x y,isRw x=true->isRw y=true->okD 2 s x->okD 2 s y->F [x,y] s=.ok (.bl (goV x y)) s) :
  gOp qAll (lComp l (srcZM m m2) (gT 2 (gCons' (gN 0) (gCons' (gN 1) gNil'))) cYes (mCall 2 F (pCons (mv 0) (pCons (mv 1) pNil)))) env s=.ok (.bl ((xs.zip ys).all λ p=>goV p.1 p.2)) s:=by
 obtain⟨gs,e3,hg⟩:=zip_ok hv.sq hw.sq h k hk
 have src:srcZM m m2 env s=.ok ((xs.zip ys).map λ p=>AV.tup [p.1,p.2],gs) s:=by
  unfold srcZM
  rw[e,bind_ok',e',bind_ok',e3];rfl
 obtain⟨l1,o1⟩:=hv.rows xs h
 obtain⟨l2,o2⟩:=hw.rows ys k
 refine all_map2 goV src (by rw[List.length_zip];omega) hg e2 λ p hp=>?_
 have h1:=(List.of_mem_zip hp).1
 have h2:=(List.of_mem_zip hp).2
 exact call2 rfl rfl (hF _ _ (List.all_eq_true.mp hr _ h1) (List.all_eq_true.mp kr _ h2) (o1 _ h1) (o2 _ h2))
theorem shows_eq {s:S}{v w:AV}(hv:okT s v)(hw:okT s w)(hp:Pair s v w):f_shows_statements [v,w] s=.ok (.bl (shownB s v w)) s:=by
 obtain⟨z1,i1⟩:=is_statements_eq hv
 obtain⟨z2,i2⟩:=is_statements_eq hw
 have c1:=gcall1 (m:=mv 0) (env:=[some v,some w]) rfl i1
 have c2:=gcall1 (m:=mv 1) (env:=[some v,some w]) rfl i2
 unfold shownB
 cases t1:isTab s v with
 | false=>
  rw[t1]at c1
  exact fn_rt (if_t (or_t (not_ok (x:=false) (t_ok c1))))
 | true=>
  rw[t1]at c1
  cases t2:isTab s w with
  | false=>
   rw[t2]at c2
   exact fn_rt (if_t (or_f (not_ok (x:=true) (t_ok c1)) (not_ok (x:=false) (t_ok c2))))
  | true=>
   rw[t2]at c2
   obtain⟨xs,h,hr,_⟩:=tab_inv t1
   obtain⟨ys,k,kr,_⟩:=tab_inv t2
   have c3:=names_ne (l:=[("row",none)]) (l2:=[("row",none)]) (m:=mv 0) (m2:=mv 1) (env:=[some v,some w]) hv hw h k hr kr rfl (λ _=>rfl) rfl rfl
   rw[h,k]
   dsimp only[Option.map_some]
   by_cases en:xs.map nmOf=ys.map nmOf
   ·have c4:=pairs_eq (F:=f_stands_behind) (l:=[("row",none),("later",none)]) (m:=mv 0) (m2:=mv 1) (env:=[some v,some w]) hv hw h k hr kr (hp xs ys h k en) rfl rfl rfl λ x y a b c d=>(both_go a b c d).1
    rw[decide_eq_true en]at c3
    rw[decide_eq_true (congrArg some en)]
    exact fn_rt (if_f (or_f (not_ok (x:=true) (t_ok c1)) (not_ok (x:=true) (t_ok c2))) (if_f c3 (ret_ok c4)))
   ·rw[decide_eq_false en]at c3
    rw[decide_eq_false (λ z=>en (Option.some.inj z))]
    exact fn_rt (if_f (or_f (not_ok (x:=true) (t_ok c1)) (not_ok (x:=true) (t_ok c2))) (if_t c3))
theorem txts_map:∀ l:List Str,txts (l.map AV.str)=some l
 | []=>rfl
 | a :: r=>by simp only[List.map_cons,txts,txts_map r];rfl
noncomputable abbrev bShown:Ms:=sSeq (sIf (cOr (cNot (cT (mUn opIsLT (mv 2)))) (cNot (cT (gOp qAll (lComp [("_law_row",none)] (srcV' (mv 2)) (gN 0) cYes (mCall 1 f__law_is_row (pCons (mv 0) pNil))))))) (sRet (mc (.bl false))) sSkip)
 (sSeq (sSet 3 (mNew (lComp [("_law_row",none)] (srcV' (mv 2)) (gN 0) cYes (mBin opIx (mv 0) (mc (.int 0))))))
 (sIf (gcB (cB (mBin opNe (mv 3) (mNew (gSetSV (mv 3)))))) (sRet (mc (.bl false))) sSkip))
theorem body_shown {s:S}{a b:Option AV}{v:AV}{x:Option AV}(h:okT s v) :
  (isTab s v=true->∃ y z,bShown [a,b,some v,x] s=.nx [a,b,some v,y] (s++z))/\(isTab s v=false->∃ z,bShown [a,b,some v,x] s=.rt (.bl false) (s++z)):=by
 cases hi:items v s with
 | none=>
  have k1:=lt_ok (m:=mv 2) (env:=[a,b,some v,x]) h.leaf rfl
  rw[hi]at k1
  refine⟨λ t=>?_,λ _=>⟨[],?_⟩⟩
  ·obtain⟨xs,e,_⟩:=tab_inv t
   rw[hi]at e;cases e
  ·rw[List.append_nil]
   exact if_t (or_t (not_ok (x:=false) (t_ok k1)))
 | some xs=>
  have k1:=lt_ok (m:=mv 2) (env:=[a,b,some v,x]) h.leaf rfl
  rw[hi]at k1
  have k2:=rows_ok (F:=f__law_is_row) (l:=[("_law_row",none)]) (m:=mv 2) (env:=[a,b,some v,x]) h hi rfl rfl λ x hx=>law_row_eq hx
  have ht:isTab s v=(xs.all isRw && rises (xs.map nmOf)):=by unfold isTab;rw[hi]
  cases ha:xs.all isRw with
  | false=>
   rw[ha]at k2 ht
   refine⟨λ t=>?_,λ _=>⟨[],?_⟩⟩
   ·rw[ht]at t;cases t
   ·rw[List.append_nil]
    exact if_t (or_f (not_ok (x:=true) (t_ok k1)) (not_ok (x:=false) (t_ok k2)))
  | true=>
   rw[ha]at k2 ht
   rw[Bool.true_and]at ht
   have k3:=new_ok (names_ok (l:=[("_law_row",none)]) (m:=mv 2) (env:=[a,b,some v,x]) h hi ha rfl rfl)
   let s1:S:=s++[.lst ((xs.map nmOf).map AV.str)]
   have l1:lstO s1 s.length=some ((xs.map nmOf).map AV.str):=lst_last _ _
   have g1:gSetSV (mv 3) [a,b,some v,some (.ref s.length)] s1=.ok ((sortS (Sx.uniq (xs.map nmOf))).map AV.str) s1:=by
    show(need (lstO s1 s.length) λ l=>setSortS l s1)=_
    rw[l1,need_some]
    unfold setSortS
    rw[txts_map,need_some,if_pos (by rw[List.length_map];have:=(h.rows xs hi).1;omega)]
   have k4:gcB (cB (mBin opNe (mv 3) (mNew (gSetSV (mv 3))))) [a,b,some v,some (.ref s.length)] s1=.ok (!(rises (xs.map nmOf))) s1:=by
    rw[rises_iff]
    refine ne_gc (A:=mv 3) rfl (new_ok g1) ?_ (by rw[List.take_left'];rfl)
    unfold opNe
    rw[eqAV_strs (lst_old l1) (lst_last _ _)];rfl
   have step:∀ r,sIf (gcB (cB (mBin opNe (mv 3) (mNew (gSetSV (mv 3)))))) (sRet (mc (.bl false))) sSkip [a,b,some v,some (.ref s.length)] s1=r->bShown [a,b,some v,x] s=r:=by
    intro r hr
    refine if_f (or_f (not_ok (x:=true) (t_ok k1)) (not_ok (x:=true) (t_ok k2))) ?_
    have e3:sSet 3 (mNew (lComp [("_law_row",none)] (srcV' (mv 2)) (gN 0) cYes (mBin opIx (mv 0) (mc (.int 0))))) [a,b,some v,x] s=.nx [a,b,some v,some (.ref s.length)] s1:=by
     unfold sSet;rw[k3];rfl
    unfold sSeq
    rw[e3]
    exact hr
   refine⟨λ t=>⟨some (.ref s.length),[.lst ((xs.map nmOf).map AV.str)],step _ ?_⟩,λ t=>⟨[.lst ((xs.map nmOf).map AV.str)],step _ ?_⟩⟩
   ·rw[ht]at t
    rw[t]at k4
    unfold sIf
    rw[k4];rfl
   ·rw[ht]at t
    rw[t]at k4
    unfold sIf
    rw[k4];rfl
theorem for2 {body:Ms}{a b:AV}{y:Option AV}{s:S}:sFor (srcV' (mTup (pCons (mv 0) (pCons (mv 1) pNil)))) (gN 2) body [some a,some b,none,y] s=(match body [some a,some b,some a,y] s with
  | .nx e2 s2=>forL (gN 2) body [] [b] e2 s2|.ct e2 s2=>forL (gN 2) body [] [b] e2 s2|.bk e2 s2=>.nx e2 s2|q=>q):=by
 have e:srcV' (mTup (pCons (mv 0) (pCons (mv 1) pNil))) [some a,some b,none,y] s=.ok ([a,b],[]) s:=by
  unfold srcV'
  rw[tup_ok (vs:=[a,b]) rfl (by simp)];rfl
 unfold sFor
 rw[e]
 show forL (gN 2) body [] [a,b] [some a,some b,none,y] s=_
 rw[forL,if_pos (gOk_nil s)]
 rfl
theorem for1 {body:Ms}{a b c:AV}{y:Option AV}{s:S}:forL (gN 2) body [] [c] [some a,some b,some a,y] s=(match body [some a,some b,some c,y] s with
  | .nx e2 s2=>.nx e2 s2|.ct e2 s2=>.nx e2 s2|.bk e2 s2=>.nx e2 s2|q=>q):=by
 rw[forL,if_pos (gOk_nil s)]
 show(match body [some a,some b,some c,y] s with
  | .nx e2 s2=>forL (gN 2) body [] [] e2 s2|.ct e2 s2=>forL (gN 2) body [] [] e2 s2|.bk e2 s2=>.nx e2 s2|q=>q)=_
 have n:∀ e s,forL (gN 2) body [] [] e s=.nx e s:=λ e s=>by rw[forL,if_pos (gOk_nil s)]
 cases body [some a,some b,some c,y] s<;>simp only[n]
theorem law_shown_eq {s:S}{v w:AV}(hv:okT s v)(hw:okT s w)(hp:Pair s v w):∃ z,f__law_shown [v,w] s=.ok (.bl (shownB s v w)) (s++z):=by
 have fin:∀ {u:AV}{z:S},b__law_shown [some v,some w,none,none] s=.rt u (s++z)->f__law_shown [v,w] s=.ok u (s++z):=λ {u z} h=>by
  unfold f__law_shown fnR
  show(match b__law_shown [some v,some w,none,none] s with|.rt v s1=>R.ok v s1|.nx _ s1=>.ok .non s1|.ex c s1=>.ex c s1|_=>.bad)=_
  rw[h]
 obtain⟨p1,p2⟩:=body_shown (a:=some v) (b:=some w) (x:=none) hv
 cases t1:isTab s v with
 | false=>
  obtain⟨z,e⟩:=p2 t1
  refine⟨z,fin ?_⟩
  unfold b__law_shown sSeq
  rw[for2]
  show(match (match bShown [some v,some w,some v,none] s with
   | .nx e2 s2=>forL (gN 2) bShown [] [w] e2 s2|.ct e2 s2=>forL (gN 2) bShown [] [w] e2 s2|.bk e2 s2=>.nx e2 s2|q=>q) with|.nx e s1=>_|r=>r)=_
  rw[e]
  unfold shownB
  rw[t1];rfl
 | true=>
  obtain⟨y,z,e⟩:=p1 t1
  obtain⟨q1,q2⟩:=body_shown (s:=s++z) (a:=some v) (b:=some w) (x:=y) (okT_app (z:=z) hw)
  rw[isTab_app hw.leaf]at q1 q2
  cases t2:isTab s w with
  | false=>
   obtain⟨z2,e2⟩:=q2 t2
   refine⟨z++z2,fin ?_⟩
   unfold b__law_shown sSeq
   rw[for2]
   show(match (match bShown [some v,some w,some v,none] s with
    | .nx e2 s2=>forL (gN 2) bShown [] [w] e2 s2|.ct e2 s2=>forL (gN 2) bShown [] [w] e2 s2|.bk e2 s2=>.nx e2 s2|q=>q) with|.nx e s1=>_|r=>r)=_
   rw[e]
   dsimp only
   rw[for1,e2]
   unfold shownB
   rw[t1,t2,<-List.append_assoc];rfl
  | true=>
   obtain⟨y2,z2,e2⟩:=q1 t2
   refine⟨z++z2,fin ?_⟩
   unfold b__law_shown sSeq
   rw[for2]
   show(match (match bShown [some v,some w,some v,none] s with
    | .nx e2 s2=>forL (gN 2) bShown [] [w] e2 s2|.ct e2 s2=>forL (gN 2) bShown [] [w] e2 s2|.bk e2 s2=>.nx e2 s2|q=>q) with|.nx e s1=>_|r=>r)=_
   rw[e]
   dsimp only
   rw[for1,e2]
   dsimp only
   rw[<-List.append_assoc]
   obtain⟨xs,h,hr,_⟩:=tab_inv t1
   obtain⟨ys,k,kr,_⟩:=tab_inv t2
   have hv2:okT (s++z++z2) v:=okT_app (okT_app hv)
   have hw2:okT (s++z++z2) w:=okT_app (okT_app hw)
   have h2:items v (s++z++z2)=some xs:=by rw[items_app (leaf_app hv.leaf),items_app hv.leaf];exact h
   have k2:items w (s++z++z2)=some ys:=by rw[items_app (leaf_app hw.leaf),items_app hw.leaf];exact k
   let E:En:=[some v,some w,some w,y2]
   have c3:=names_ne (l:=[("_law_row",none)]) (l2:=[("_law_row",none)]) (m:=mv 0) (m2:=mv 1) (env:=E) hv2 hw2 h2 k2 hr kr rfl (λ _=>rfl) rfl rfl
   unfold shownB
   rw[t1,t2,h,k]
   dsimp only[Option.map_some]
   by_cases en:xs.map nmOf=ys.map nmOf
   ·have c4:=pairs_eq (F:=f__law_goes_on) (l:=[("_law_first",none),("_law_second",none)]) (m:=mv 0) (m2:=mv 1) (env:=E) hv2 hw2 h2 k2 hr kr (hp xs ys h k en) rfl rfl rfl λ x y a b c d=>(both_go a b c d).2
    rw[decide_eq_true en]at c3
    rw[decide_eq_true (congrArg some en)]
    exact if_f c3 (ret_ok c4)
   ·rw[decide_eq_false en]at c3
    rw[decide_eq_false (λ z=>en (Option.some.inj z))]
    exact if_t c3
theorem gcall2 {F:List AV->S->R AV}{m m2:Ev}{env:En}{s z:S}{v w:AV}{b:Bool}(e:m env s=.ok v s)(e2:m2 env s=.ok w s)(h:F [v,w] s=.ok (.bl b) (s++z)):gcE (mCall 2 F (pCons m (pCons m2 pNil))) env s=.ok (.bl b) s:=by
 have e1:mCall 2 F (pCons m (pCons m2 pNil)) env s=.ok (.bl b) (s++z):=by
  unfold mCall pCons pNil
  rw[e,bind_ok',e2];exact h
 unfold gcE
 rw[e1,bind_ok',if_pos ⟨by rw[List.take_left'] ;rfl,rfl⟩]
def Dp (s:S)(v:AV):Prop:=depA v<=10/\∀ i xs,v=.ref i->lstO s i=some xs->depAs xs<=10
theorem copy_app {s z:S}{v w:AV}(h:copyOf s v w):copyOf (s++z) v w:=by
 rcases h with h|⟨i,j,xs,h1,h2,h3,h4,h5⟩
 ·exact .inl h
 ·exact .inr ⟨i,j,xs,h1,h2,lst_old h3,lst_old h4,h5⟩
theorem copy_ok {m:Ev}{env:En}{s:S}{v:AV}(hv:okT s v)(hd:Dp s v)(e:m env s=.ok v s):∃ v' z,mIf (cT (mUn (opIsi "list") m)) (mNew (gOp qList (lIts m))) m env s=.ok v' (s++z)/\copyOf (s++z) v v':=by
 have c:=t_ok (isi_ok (n:="list") hv.leaf.1 e)
 unfold mIf
 rw[c,bind_ok']
 cases hl:isTy "list" v s with
 | false=>exact⟨v,[],by rw[List.append_nil,if_neg (by simp)];exact e,.inl ⟨rfl,hd.1⟩⟩
 | true=>
  rw[if_pos rfl]
  cases v with
  | ref i=>
   have:∃ xs,lstO s i=some xs:=by
    unfold isTy at hl
    simp only[tagOf]at hl
    cases eo:s[i]? with
    | none=>rw[eo]at hl;cases hl
    | some o=>
     rw[eo]at hl
     cases o with
     | lst xs=>exact⟨xs,lstO_of eo⟩
     | dK q=>exact absurd (show isTag "dict" "list"=true from hl) (by decide)
     | dT q=>exact absurd (show isTag "dict" "list"=true from hl) (by decide)
     | _=>cases hl
   obtain⟨xs,hx⟩:=this
   have g:gOp qList (lIts m) env s=.ok xs s:=by
    unfold gOp lIts
    rw[e,bind_ok']
    show(need (lstO s i) λ xs=>R.ok xs s).bind qList=_
    rw[hx];rfl
   exact⟨.ref s.length,[.lst xs],new_ok g,.inr ⟨i,s.length,xs,rfl,rfl,lst_old hx,lst_last _ _,hd.2 i xs rfl hx⟩⟩
  | sq ys=>exact absurd hv.sq (by simp[isSq])
  | _=>exact absurd hl (by unfold isTy;simp only[tagOf];decide)
theorem Dp_app {s z:S}{v:AV}(h:leafOk s v)(d:Dp s v):Dp (s++z) v:=by
 refine⟨d.1,λ i xs e k=>?_⟩
 subst e
 exact d.2 i xs rfl (by rw[<-show items (.ref i) (s++z)=lstO s i from items_app h];exact k)
theorem Pair_app {s z:S}{v w:AV}(hv:leafOk s v)(hw:leafOk s w)(h:Pair s v w):Pair (s++z) v w:=λ xs ys a b=>h xs ys (by rw[<-items_app (z:=z) hv];exact a) (by rw[<-items_app (z:=z) hw];exact b)
theorem taken_ok {s:S}{v w:AV}(hv:okT s v)(hw:okT s w)(hp:Pair s v w)(dv:Dp s v)(dw:Dp s w):∃ z,f__law_taken_right [v,w] s=.ok (.bl true) (s++z):=by
 let E:En:=[some v,some w,none,none]
 obtain⟨v',z1,e1,c1⟩:=copy_ok (m:=mv 0) (env:=E) hv dv rfl
 have hw1:okT (s++z1) w:=okT_app hw
 obtain⟨w',z2,e2,c2⟩:=copy_ok (m:=mv 1) (env:=E) hw1 (Dp_app hw.leaf dw) rfl
 have c1:=copy_app (z:=z2) c1
 have hv2:okT (s++z1++z2) v:=okT_app (okT_app hv)
 have hw2:okT (s++z1++z2) w:=okT_app hw1
 have hp2:Pair (s++z1++z2) v w:=Pair_app (leaf_app hv.leaf) hw1.leaf (Pair_app hv.leaf hw.leaf hp)
 refine⟨z1++z2,?_⟩
 rw[<-List.append_assoc]
 generalize hS:s++z1++z2=S2 at *
 have t1:sSet 2 (mTup (pCons (mIf (cT (mUn (opIsi "list") (mv 0))) (mNew (gOp qList (lIts (mv 0)))) (mv 0)) (pCons (mIf (cT (mUn (opIsi "list") (mv 1))) (mNew (gOp qList (lIts (mv 1)))) (mv 1)) pNil))) E s=.nx [some v,some w,some (.tup [v',w']),none] S2:=by
  have a:pCons (mIf (cT (mUn (opIsi "list") (mv 0))) (mNew (gOp qList (lIts (mv 0)))) (mv 0)) (pCons (mIf (cT (mUn (opIsi "list") (mv 1))) (mNew (gOp qList (lIts (mv 1)))) (mv 1)) pNil) E s=.ok [v',w'] S2:=by
   unfold pCons pNil
   rw[e1,bind_ok',e2];rfl
  unfold sSet mTup
  rw[a,bind_ok',if_pos (Nat.le_of_lt (small1000 (show[v',w'].length<=1000 by simp)))]
  rfl
 have sh:=shows_eq hv2 hw2 hp2
 obtain⟨z3,ls⟩:=law_shown_eq hv2 hw2 hp2
 have sh':f_shows_statements [v,w] S2=.ok (.bl (shownB S2 v w)) (S2++[]):=by rw[List.append_nil];exact sh
 let E2:En:=[some v,some w,some (.tup [v',w']),none]
 have t2:sSet 3 (gcE (mCall 2 f_shows_statements (pCons (mv 0) (pCons (mv 1) pNil)))) E2 S2=.nx [some v,some w,some (.tup [v',w']),some (.bl (shownB S2 v w))] S2:=by
  unfold sSet
  rw[gcall2 (m:=mv 0) (m2:=mv 1) (env:=E2) rfl rfl sh'];rfl
 let E3:En:=[some v,some w,some (.tup [v',w']),some (.bl (shownB S2 v w))]
 have t3:mAnd (mUn (opIsi "bool") (mv 3)) (mAnd (mBin opEq (mv 3) (gcE (mCall 2 f__law_shown (pCons (mv 0) (pCons (mv 1) pNil))))) (mBin opEqC (mTup (pCons (mv 0) (pCons (mv 1) pNil))) (mv 2))) E3 S2=.ok (.bl (true && (true && true))) S2:=by
  refine and_ok (isi_b ⟨_,rfl⟩ rfl (by unfold isTy;rfl)) λ _=>and_ok (bin_ok rfl (gcall2 rfl rfl ls) ?_) λ _=>bin_ok (tup_ok (vs:=[v,w]) rfl (by simp)) rfl ?_
  ·show R.ok (AV.bl (decide (shownB S2 v w=shownB S2 v w))) S2=_
   simp
  ·unfold opEqC
   exact if_pos ⟨c1,c2⟩
 unfold f__law_taken_right fnR
 show(match b__law_taken_right E s with|.rt v s1=>R.ok v s1|.nx _ s1=>.ok .non s1|.ex c s1=>.ex c s1|_=>.bad)=_
 have:b__law_taken_right E s=.rt (.bl true) S2:=by
  unfold b__law_taken_right sSeq
  rw[t1]
  dsimp only
  rw[t2]
  exact ret_ok t3
 rw[this]
theorem fit9' {i:Int}(h:0<=i)(k:i < 2 ^ 40):Fit 9000 i:=(fitI (n:=40) h k).mono (by decide)
theorem nn_num {a b:Int}(ha:0<=a)(hb:0 < b):0<=(Rat.divInt a b).num:=by
 have e:=fr_rat (t:=a) (b:=b) (by omega)
 have e1:a.fdiv (gsg a b)=(Rat.divInt a b).num:=congrArg Prod.fst e
 have eg:gsg a b=((Int.gcd a b:Nat):Int):=if_neg (by omega)
 rw[<-e1,eg]
 exact Int.fdiv_nonneg ha (by omega)
theorem fraction_wp {c d n:Nat}{s:S}(D:Dr c d n s)(hn:n<=900001000){m:Int}(m0:1<=m)(m1:m<=99):(f__law_fraction [.ref d,.int m] s).wp λ v s'=>∃ q,v=fq q/\0<=q.num/\Sz 40 q/\Dr c d (n+3) s'/\Kp c d s s':=by
 unfold f__law_fraction b__law_fraction
 have p6:(10:Int) ^ (6:Int).toNat=1000000:=rfl
 simp only[↓WS,↓WE,↓WV,Lq,len_sz,UU,Nat.reduceSub,↓reduceIte,p6]
 refine⟨by decide,?_⟩
 refine(pick_wp D (by omega) (xs:=[.int 1,.int 12,.int 1000000]) (m:=3) rfl (by omega) (by omega) (P:=λ b=>1<=b/\b<=1000000) ?_).mono ?_
 ·intro v hv
  simp only[List.mem_cons,List.not_mem_nil,or_false]at hv
  rcases hv with rfl|rfl|rfl<;>exact⟨_,rfl,by omega,by omega⟩
 rintro w s1 ⟨b,eb,⟨b0,b1⟩,al,D1,K1⟩
 simp only[↓WS,↓WE,↓WV,Lq,len_sz,UU,Nat.reduceSub,↓reduceIte,↓wpe eb,al,show AV.low s.length (.int b)=true by simp[AV.low]]
 refine(take_wp D1 (by omega) (by omega) (fit9' (by omega) (by omega))).mono ?_
 rintro _ s2 ⟨x,rfl,x0,x1,D2,K2⟩
 have g1:1 * (1+x)<=m * (1+x):=Int.mul_le_mul_of_nonneg_right m0 (by omega)
 have g2:m * (1+x)<=99 * (1+x):=Int.mul_le_mul_of_nonneg_right m1 (by omega)
 walk_at "w"
 refine⟨⟨big_of (fitI (n:=40) (by omega) (by omega)) (by decide),big_of (fitI (n:=40) (by omega) (by omega)) (by decide)⟩,?_⟩
 refine(take_wp D2 (by omega) (by omega) (fit9' (by omega) (by omega))).mono ?_
 rintro _ s3 ⟨y,rfl,y0,y1,D3,K3⟩
 simp only[↓WS,↓WE,↓WV,Lq,len_sz,UU,Nat.reduceSub,↓reduceIte,↓wpe (lowest_eq (a:=y) (b:=1+x) s3 (by omega) (fit9' (by omega) (by omega)) ((fit9' (by omega) (by omega)).mono (by decide)))]
 exact⟨_,rfl,nn_num (by omega) (by omega),fr_sz (by omega) (fitI (by omega) (by omega)) (fitI (by omega) (by omega)),D3.mono (by omega),(K1.trans K2).trans K3⟩
theorem fn2w' {n:Nat}{b:Ms}{v w:AV}{s:S}{Q:AV->S->Prop}(h:(b (some v :: some w :: List.replicate (n - 2) none) s).wp (λ _ s1=>Q .non s1) Q):(fnR n b [v,w] s).wp Q:=by rw[WS.2.2.2.2.2.2.2.2.2.2.2.2.2.2.2.2.1];exact h
theorem low_mem' {b:Nat}:∀ {l:List AV}{v:AV},lowL b l=true->v∈l->v.low b=true
 | a :: r,v,h,hv=>by
  simp only[lowL,Bool.and_eq_true]at h
  rcases List.mem_cons.mp hv with rfl|hv
  ·exact h.1
  ·exact low_mem' h.2 hv
theorem pickV {c d n:Nat}{s:S}(D:Dr c d n s)(hn:n<=900001000){xs:List AV}{m:Int}(hm:m=xs.length)(hm0:0 < m)(hm1:m<=20)(lx:∀ b,lowL b xs=true) :
  (f__law_take [.ref d,.int m] (s++[.lst xs])).wp λ v s2=>∃ u,opIx (.ref s.length) v s2=.ok u s2/\u∈xs/\u.low s.length=true/\(s2.take s.length).all (AO.low s.length)=true/\Dr c d (n+1) (s2.take s.length)/\Kp c d s (s2.take s.length):=by
 have D1':=D.app (e:=[.lst xs]) (D.cl.add (by simp[AO.low,lx]))
 refine(take_wp D1' (by omega) (by omega) (fit9 (by omega) (by omega))).mono ?_
 rintro _ s2 ⟨j,rfl,j0,j1,D2,K2⟩
 obtain⟨v,hv,ev⟩:=ix_at (s:=s2) (i:=s.length) (j:=j) (K2.gk.lst (n:=0) (by have:=D.ltc;omega) (by have:=D.ltd;omega) (lst_new s _)) j0 (by omega)
 obtain⟨D3,K3,al⟩:=((Gk.app c d s _).trans K2.gk).cut D D2
 exact⟨v,ev,hv,low_mem' (lx _) hv,al,D3,K3⟩
theorem low_fqs3 (b:Nat):∀ l:List Rat,lowL b (l.map fq)=true
 | []=>by simp[lowL]
 | q :: r=>by simp only[List.map_cons,lowL,low_fqs3 b r,low_fq3];rfl
structure Made (p:Str)(x y:AV):Prop where
 ex:∃ e0 w0 r0 k0 g0 e f w d r k g,x=rowA p e0 0 w0 0 r0 k0 g0 3/\y=rowA p e f w d r k g g/\0<=w0/\w0<=9/\0<=g0/\g0<=9/\0<=w/\0<=d/\0<=g/\g<=9/\Fit 400 w/\Fit 400 d/\
  (∀ q∈[e0,r0,k0,e,f,r,k],Sz 700 q)/\goes r0 k0 e f w d r k g g=true
theorem fq_ix0 (q:Rat)(s:S):opIx (fq q) (.int 0) s=.ok (.int q.num) s:=rfl
theorem fq_ix1 (q:Rat)(s:S):opIx (fq q) (.int 1) s=.ok (.int q.den) s:=rfl
theorem cons_ok {m:Ev}{r:Evs}{env:En}{s:S}{v:AV}{vs:List AV}(h:m env s=.ok v s)(k:r env s=.ok vs s):pCons m r env s=.ok (v :: vs) s:=by unfold pCons;rw[h,bind_ok',k];rfl
theorem set_ok {i:Nat}{m:Ev}{env:En}{s s1:S}{v:AV}(h:m env s=.ok v s1)(N:En->S->Prop)(T:AV->S->Prop):(sSet i m env s).wp N T=N (env.set i (some v)) s1:=by unfold sSet;rw[h];rfl
theorem fl_lt (wh:Rat){co:Int}(h:wh.num.fdiv wh.den<=co):wh < ((co+1:Int):Rat):=by
 have hd:=wh.den_pos
 refine(Rat.lt_iff _ _).mpr ?_
 show wh.num * 1 < (co+1) * (wh.den:Int)
 rw[Int.mul_one]
 rw[Int.fdiv_eq_ediv_of_nonneg _ (by omega)]at h
 have:=Int.lt_ediv_add_one_mul_self wh.num (b:=(wh.den:Int)) (by omega)
 have h2:(wh.num / (wh.den:Int)+1) * (wh.den:Int)<=(co+1) * (wh.den:Int):=Int.mul_le_mul_of_nonneg_right (by omega) (by omega)
 omega
theorem num_lt {r:Rat}(h:r < 1):r.num < r.den:=by
 have:=(Rat.lt_iff _ _).mp h
 have e:r.num * 1 < 1 * (r.den:Int):=this
 omega
theorem fit_fdiv3 {a b:Int}{n:Nat}(h:Fit n a)(hb:0 < b):Fit n (a.fdiv b):=by
 refine h.le ?_
 rw[Int.fdiv_eq_ediv_of_nonneg _ (by omega)]
 exact Int.natAbs_ediv_le_natAbs a b
structure FrOk (k0 f:Rat):Prop where
 nn:0<=f.num
 le:¬ (k0.num * f.den < f.num * k0.den)
 sz:Sz 42 f
theorem frOk_self {k0:Rat}(h:0<=k0.num)(z:Sz 40 k0):FrOk k0 k0:=⟨h,Int.lt_irrefl _,z.mono (by decide)⟩
theorem frOk_zero {k0:Rat}(h:0<=k0.num):FrOk k0 0:=⟨Int.le_refl _,by
 show ¬ (k0.num * 1 < 0 * (k0.den:Int))
 rw[Int.mul_one,Int.zero_mul];omega,sz02.mono (by decide)⟩
theorem frOk_half {k0:Rat}(h:0<=k0.num)(z:Sz 40 k0):FrOk k0 (Rat.divInt k0.num (2 * (k0.den:Int))):=by
 have kd:=k0.den_pos
 have hb:(2 * (k0.den:Int))≠0:=by omega
 have e:Rat.divInt k0.num (2 * (k0.den:Int))+Rat.divInt k0.num (2 * (k0.den:Int))=k0:=by
  rw[div_add hb,show k0.num+k0.num=2 * k0.num by omega,Rat.divInt_mul_left (by decide),Rat.num_divInt_den]
 have p:=div_nn (j:=k0.num) (b:=2 * (k0.den:Int)) h (by omega)
 refine⟨nn_num h (by omega),?_,(fr_sz hb (z.a.mono (by decide)) (((fitI (n:=2) (i:=2) (by decide) (by decide)).mul z.b).mono (by decide)))⟩
 have le:Rat.divInt k0.num (2 * (k0.den:Int))<=k0:=by grind
 have:=(Rat.le_iff _ _).mp le
 omega
theorem made_wp {c d n:Nat}{s:S}(D:Dr c d n s)(hn:n<=900000000){p:Str}:(f__law_made [.ref d,.str p] s).wp λ v s'=>∃ x y,v=.tup [x,y]/\Made p x y/\Dr c d (n+40) s'/\Kp c d s s':=by
 unfold f__law_made b__law_made
 refine fn2w' ?_
 refine seq_step λ K hK=>?_
 try walk_at "w"
 refine(fraction_wp D (by omega) (by omega) (by omega)).mono ?_
 rintro _ s1 ⟨r0,rfl,r0n,r0z,D1,K1⟩
 try walk_at "w"
 refine(fraction_wp D1 (by omega) (by omega) (by omega)).mono ?_
 rintro _ s2 ⟨k0,rfl,k0n,k0z,D2,K2⟩
 try walk_at "w"
 rw[hK]
 clear hK K
 refine seq_step λ K hK=>?_
 try walk_at "w"
 refine(take_wp D2 (by omega) (by omega) (fit9 (by omega) (by omega))).mono ?_
 rintro _ s3 ⟨t,rfl,t0,t1,D3,K3⟩
 have K13:=(K1.trans K2).trans K3
 clear K1 K2 K3 D1 D2
 have rest:∀ r1:Rat,Sz 40 r1->K [some (.ref d),some (.str p),none,none,none,none,none,none,none,none,none,some (fq r1),some (fq k0)] s3:=by
  intro r1 r1z
  rw[hK]
  clear hK K
  refine seq_step λ K hK=>?_
  try walk_at "w"
  refine(fraction_wp D3 (by omega) (by omega) (by omega)).mono ?_
  rintro _ s4 ⟨e0,rfl,e0n,e0z,D4,K4⟩
  try walk_at "w"
  refine(take_wp D4 (by omega) (by omega) (fit9 (by omega) (by omega))).mono ?_
  rintro _ s5 ⟨w0,rfl,w00,w01,D5,K5⟩
  try walk_at "w"
  refine(take_wp D5 (by omega) (by omega) (fit9 (by omega) (by omega))).mono ?_
  rintro _ s6 ⟨g0,rfl,g00,g01,D6,K6⟩
  try walk_at "w"
  rw[hK]
  clear hK K
  have K46:=(K4.trans K5).trans K6
  clear K4 K5 K6 D4 D5
  refine⟨Nat.le_of_lt (small1000 (by simp)),?_⟩
  refine seq_step λ K hK=>?_
  have kd:=k0.den_pos
  have b2:Fit 42 (2 * (k0.den:Int)):=((fitI (n:=2) (i:=2) (by decide) (by decide)).mul k0z.b).mono (by decide)
  try walk_at "w"
  rw[wpe (fq_ix0 k0 s6),wpe (fq_ix1 k0 s6)]
  rw[wpe (mul_ok (big_of (fitI (n:=2) (by decide) (by decide)) (by decide)) (big_of k0z.b (by decide)))]
  rw[wpe (lowest_eq (a:=k0.num) (b:=2 * (k0.den:Int)) s6 (by omega) (b2.mono (by decide)) (k0z.a.mono (by decide)))]
  refine(pickV D6 (by omega) (xs:=[k0,0,Rat.divInt k0.num (2 * (k0.den:Int))].map fq) (m:=3) rfl (by omega) (by omega) λ b=>low_fqs3 b _).mono ?_
  rintro _ s7 ⟨u,eu,hu,lu,al,D7,K7⟩
  obtain⟨f,rfl,hf⟩:∃ f:Rat,u=fq f/\FrOk k0 f:=by
   simp only[List.map_cons,List.map_nil,List.mem_cons,List.not_mem_nil,or_false]at hu
   rcases hu with rfl|rfl|rfl
   ·exact⟨_,rfl,frOk_self k0n k0z⟩
   ·exact⟨_,rfl,frOk_zero k0n⟩
   ·exact⟨_,rfl,frOk_half k0n k0z⟩
  try simp only[↓WS,↓WE,↓WV,Lq,len_sz,UU,Nat.reduceSub,↓reduceIte,↓wpe eu,al,lu]
  rw[hK]
  clear hK K
  refine seq_step λ K hK=>?_
  try walk_at "w"
  refine(fraction_wp D7 (by omega) (by omega) (by omega)).mono ?_
  rintro _ s8 ⟨k,rfl,kn,kz,D8,K8⟩
  try walk_at "w"
  rw[hK]
  clear hK K
  refine seq_step λ K hK=>?_
  try walk_at "w"
  refine(fraction_wp D8 (by omega) (by omega) (by omega)).mono ?_
  rintro _ s9 ⟨e1,rfl,e1n,e1z,D9,K9⟩
  try walk_at "w"
  refine(take_wp D9 (by omega) (by omega) (fit9 (by omega) (by omega))).mono ?_
  rintro _ s10 ⟨t2,rfl,t20,t21,D10,K10⟩
  try walk_at "w"
  have t2z:Sz 40 ((-t2:Int):Rat):=sz_int ((fitI (n:=40) (by omega) (by omega)).neg) (by decide)
  have D10':=D10.app (e:=[.lst [fq e1,.tup [.int (-t2),.int 1]]]) (D10.cl.add (by simp only[List.all_cons,List.all_nil,Bool.and_true];exact low_fqs3 _ [e1,((-t2:Int):Rat)]))
  have m2:∀ q∈[e1,((-t2:Int):Rat)],Sz 901 q:=by
   intro q hq
   simp only[List.mem_cons,List.not_mem_nil,or_false]at hq
   rcases hq with rfl|rfl
   ·exact e1z.mono (by decide)
   ·exact t2z.mono (by decide)
  obtain⟨D11,K11,al11⟩:=((K9.gk.trans K10.gk).trans (Gk.app c d s10 _)).cut D8 D10'
  have es:=lsum_eq (by decide:4400<=4400) (l:=[e1,((-t2:Int):Rat)]) (.ref (lst_last s10 _)) (sumOk3 _ 0 2 sz02 m2 (by simp))
  change f__law_sum [AV.ref s10.length] (s10++[AO.lst [fq e1,AV.tup [AV.int (-t2),AV.int 1]]])=.ok _ (s10++[AO.lst [fq e1,AV.tup [AV.int (-t2),AV.int 1]]]) at es
  rw[wpe es]
  refine⟨⟨al11,low_fq3 _ _⟩,?_⟩
  rw[hK]
  clear hK K es
  generalize List.take s8.length (s10++[AO.lst [fq e1,AV.tup [AV.int (-t2),AV.int 1]]])=s11 at *
  have ez:Sz 100 (sumQ [e1,((-t2:Int):Rat)]):=(e1z.add (t2z.add sz02)).mono (by decide)
  generalize sumQ [e1,((-t2:Int):Rat)]=e at *
  have K711:=((K46.trans K7).trans K8).trans K11
  clear D10' m2 t2z e1z e1n t20 t21 D10 D9 K9 K10 K11 K8 K7 K46 eu al lu hu al11
  refine seq_step λ K hK=>?_
  have kz':=kz.neg
  have m4:∀ q∈[r1,k0,e,-k],Sz 901 q:=by
   intro q hq
   simp only[List.mem_cons,List.not_mem_nil,or_false]at hq
   rcases hq with rfl|rfl|rfl|rfl
   ·exact r1z.mono (by decide)
   ·exact k0z.mono (by decide)
   ·exact ez.mono (by decide)
   ·exact kz'.mono (by decide)
  let E6:En:=[some (.ref d),some (.str p),some (.tup [.str p,fq e0,.tup [.int 0,.int 1],.int w0,.int 0,fq r1,fq k0,.int g0,.int 3]),some (fq f),some (fq k),some (fq e),none,none,none,none,none,some (fq r1),some (fq k0)]
  have l4:pCons (mv 11) (pCons (mv 12) (pCons (mv 5) (pCons (mTup (pCons (mUn opNeg (mBin opIx (mv 4) (mc (.int 0)))) (pCons (mBin opIx (mv 4) (mc (.int 1))) pNil))) pNil))) E6 s11=.ok ([r1,k0,e,-k].map fq) s11:=by
   have t:=tup_ok (r:=pCons (mUn opNeg (mBin opIx (mv 4) (mc (.int 0)))) (pCons (mBin opIx (mv 4) (mc (.int 1))) pNil)) (env:=E6) (s:=s11) (vs:=[.int (-k.num),.int k.den]) rfl (by simp)
   exact cons_ok rfl (cons_ok rfl (cons_ok rfl (cons_ok t rfl)))
  have s6':=gsum (F:=f__law_sum) (l:=[r1,k0,e,-k]) (lLst_ok l4 (by simp)) λ st v gs hw=>lsum_eq (by decide:4400<=4400) hw (sumOk3 _ 0 2 sz02 m4 (by simp))
  have wz:Sz 300 (sumQ [r1,k0,e,-k]):=(r1z.add (k0z.add (ez.add (kz'.add sz02)))).mono (by decide)
  have wd:sumQ [r1,k0,e,-k]=r1+k0+e - k:=by simp only[sumQ];grind
  generalize sumQ [r1,k0,e,-k]=wh at *
  let E7:En:=[some (.ref d),some (.str p),some (.tup [.str p,fq e0,.tup [.int 0,.int 1],.int w0,.int 0,fq r1,fq k0,.int g0,.int 3]),some (fq f),some (fq k),some (fq e),some (fq wh),none,none,none,none,some (fq r1),some (fq k0)]
  refine Eq.mpr (set_ok s6' _ _) ?_
  rw[hK]
  clear hK K s6' l4 m4
  show(sSeq _ _ E7 s11).wp _ _
  refine seq_step λ K hK=>?_
  have hwd:=wh.den_pos
  obtain⟨co,hco⟩:∃ co:Int,(if wh.num.fdiv wh.den > 0 then wh.num.fdiv wh.den else 0)=co:=⟨_,rfl⟩
  have co0:0<=co:=by rw[<-hco];split<;>omega
  have cof:wh.num.fdiv wh.den<=co:=by rw[<-hco];split<;>omega
  have coz:Fit 301 co:=by
   rw[<-hco]
   split
   ·exact(fit_fdiv3 wz.a (by omega)).mono (by decide)
   ·exact fitI (by decide) (by decide)
  have m7:mOp opMax (pCons (mc (.int 0)) (pCons (mBin opFdiv (mBin opIx (mv 6) (mc (.int 0))) (mBin opIx (mv 6) (mc (.int 1)))) pNil)) E7 s11=.ok (.int co) s11:=by
   unfold mOp
   rw[cons_ok (vs:=[.int (wh.num.fdiv wh.den)]) rfl (cons_ok (bin_ok (v:=.int wh.num) (v2:=.int wh.den) rfl rfl (fdiv_ok (by omega) (mid_of wz.b (by decide)))) rfl),<-hco]
   rfl
  refine Eq.mpr (set_ok m7 _ _) ?_
  rw[hK]
  clear hK K m7
  let E8:En:=[some (.ref d),some (.str p),some (.tup [.str p,fq e0,.tup [.int 0,.int 1],.int w0,.int 0,fq r1,fq k0,.int g0,.int 3]),some (fq f),some (fq k),some (fq e),some (fq wh),some (.int co),none,none,none,some (fq r1),some (fq k0)]
  show(sSeq _ _ E8 s11).wp _ _
  refine seq_step λ K hK=>?_
  simp only[E8]
  try walk_at "w"
  have co1:Fit 302 (co+1):=coz.add (fitI (n:=301) (by decide) (by decide))
  refine(take_wp D11 (by omega) (by omega) (co1.mono (by decide))).mono ?_
  rintro _ s12 ⟨t3,rfl,t30,t31,D12,K12⟩
  try walk_at "w"
  refine(pickV D12 (by omega) (xs:=[.int co,.int 0,.int t3]) (m:=3) rfl (by omega) (by omega) (λ b=>by simp[lowL,AV.low])).mono ?_
  rintro _ s13 ⟨u,eu,hu,lu,al,D13,K13'⟩
  obtain⟨w,rfl,ww0,ww1⟩:∃ w:Int,u=.int w/\0<=w/\w<=co:=by
   simp only[List.mem_cons,List.not_mem_nil,or_false]at hu
   rcases hu with rfl|rfl|rfl
   ·exact⟨_,rfl,by omega,by omega⟩
   ·exact⟨_,rfl,by omega,by omega⟩
   ·exact⟨_,rfl,by omega,by omega⟩
  rw[K12.len]at al lu D13 K13'
  try simp only[↓WS,↓WE,↓WV,Lq,len_sz,UU,Nat.reduceSub,↓reduceIte,↓wpe eu,al,lu]
  generalize List.take s11.length s13=s14 at *
  have K714:=(K711.trans K12).trans K13'
  clear K711 K12 K13' eu al lu hu D12
  rw[hK]
  clear hK K
  let E9:En:=[some (.ref d),some (.str p),some (.tup [.str p,fq e0,.tup [.int 0,.int 1],.int w0,.int 0,fq r1,fq k0,.int g0,.int 3]),some (fq f),some (fq k),some (fq e),some (fq wh),some (.int co),some (.int w),none,none,some (fq r1),some (fq k0)]
  show(sSeq _ _ E9 s14).wp _ _
  refine seq_step λ K hK=>?_
  have ncz:Sz 301 ((-co:Int):Rat):=sz_int coz.neg (by decide)
  have m2:∀ q∈[wh,((-co:Int):Rat)],Sz 901 q:=by
   intro q hq
   simp only[List.mem_cons,List.not_mem_nil,or_false]at hq
   rcases hq with rfl|rfl
   ·exact wz.mono (by decide)
   ·exact ncz.mono (by decide)
  have l2:pCons (mv 6) (pCons (mTup (pCons (mUn opNeg (mv 7)) (pCons (mc (.int 1)) pNil))) pNil) E9 s14=.ok ([wh,((-co:Int):Rat)].map fq) s14:=
   cons_ok rfl (cons_ok (tup_ok (vs:=[.int (-co),.int 1]) rfl (by simp)) rfl)
  have s9':=gsum (F:=f__law_sum) (l:=[wh,((-co:Int):Rat)]) (lLst_ok l2 (by simp)) λ st v gs hw=>lsum_eq (by decide:4400<=4400) hw (sumOk3 _ 0 2 sz02 m2 (by simp))
  have rz:Sz 650 (sumQ [wh,((-co:Int):Rat)]):=(wz.add (ncz.add sz02)).mono (by decide)
  have rd:sumQ [wh,((-co:Int):Rat)]=wh - (co:Rat):=by
   simp only[sumQ,Rat.intCast_neg];grind
  generalize sumQ [wh,((-co:Int):Rat)]=r at *
  refine Eq.mpr (set_ok s9' _ _) ?_
  rw[hK]
  clear hK K s9' l2 m2
  let E10:En:=[some (.ref d),some (.str p),some (.tup [.str p,fq e0,.tup [.int 0,.int 1],.int w0,.int 0,fq r1,fq k0,.int g0,.int 3]),some (fq f),some (fq k),some (fq e),some (fq wh),some (.int co),some (.int w),some (fq r),none,some (fq r1),some (fq k0)]
  show(sSeq _ _ E10 s14).wp _ _
  refine seq_step λ K hK=>?_
  simp only[E10]
  try walk_at "w"
  refine(take_wp D13 (by omega) (by omega) (fit9 (by omega) (by omega))).mono ?_
  rintro _ s15 ⟨t4,rfl,t40,t41,D15,K15⟩
  try walk_at "w"
  obtain⟨g,ow,og0,og1,ex⟩:∃ g:Int,(w=co∨g=0)/\0<=g/\g<=9/\(need (lstO (s15++[AO.lst [.int 0,.int t4]]) s15.length) λ xs=>need (atI xs (if w=co then 1 else 0)) λ v=>R.ok v (s15++[AO.lst [.int 0,.int t4]]))=.ok (.int g) (s15++[.lst [.int 0,.int t4]]):=by
   by_cases h:w=co
   ·refine⟨t4,.inl h,by omega,by omega,?_⟩
    rw[lst_last,need_some,if_pos h];rfl
   ·refine⟨0,.inr rfl,by omega,by omega,?_⟩
    rw[lst_last,need_some,if_neg h];rfl
  have D15':=D15.app (e:=[.lst [.int 0,.int t4]]) (D15.cl.add (by simp[AO.low,lowL,AV.low]))
  obtain⟨D16,K16,al16⟩:=(K15.gk.trans (Gk.app c d s15 _)).cut D13 D15'
  rw[wpe ex]
  refine⟨⟨al16,by simp[AV.low]⟩,?_⟩
  rw[hK]
  clear hK K ex
  generalize List.take s14.length (s15++[AO.lst [AV.int 0,AV.int t4]])=s16 at *
  try walk_at "w"
  have co':w+(co - w)=co:=by omega
  have gv:goes r1 k0 e f w (co - w) r k g g=true:=by
   have h1:sumQ [r,k]=sumQ [r1,k0,e] - ((w+(co - w):Int):Rat):=by
    rw[co'];simp only[sumQ];rw[rd,wd];grind
   have h5:r.num < r.den:=num_lt (by
    have:=fl_lt wh cof
    rw[Rat.intCast_add]at this
    rw[rd]
    have e1:((1:Int):Rat)=1:=rfl
    rw[e1]at this
    grind)
   have h6:(decide (co - w=0) || (decide (g=0) && decide (g=0)))=true:=by
    rcases ow with h|h
    ·simp[h]
    ·simp[h]
   unfold goes
   rw[h6,decide_eq_true h1,decide_eq_true hf.nn,decide_eq_false hf.le,decide_eq_true kn,decide_eq_true h5]
   rfl
  have szs:∀ q∈[e0,r1,k0,e,f,r,k],Sz 700 q:=by
   intro q hq
   simp only[List.mem_cons,List.not_mem_nil,or_false]at hq
   rcases hq with rfl|rfl|rfl|rfl|rfl|rfl|rfl
   ·exact e0z.mono (by decide)
   ·exact r1z.mono (by decide)
   ·exact k0z.mono (by decide)
   ·exact ez.mono (by decide)
   ·exact hf.sz.mono (by decide)
   ·exact rz.mono (by decide)
   ·exact kz.mono (by decide)
  have fw:Fit 400 w:=(coz.le (by omega)).mono (by decide)
  have fd:Fit 400 (co - w):=(coz.le (by omega)).mono (by decide)
  have fin:∃ x y,AV.tup [AV.tup [AV.str p,fq e0,AV.tup [AV.int 0,AV.int 1],AV.int w0,AV.int 0,fq r1,fq k0,AV.int g0,AV.int 3],AV.tup [AV.str p,fq e,fq f,AV.int w,AV.int (co - w),fq r,fq k,AV.int g,AV.int g]]=AV.tup [x,y]/\Made p x y/\Dr c d (n+40) s16/\Kp c d s s16:=
   ⟨_,_,rfl,⟨e0,w0,r1,k0,g0,e,f,w,co - w,r,k,g,rfl,rfl,w00,by omega,g00,by omega,ww0,by omega,og0,og1,fw,fd,szs,gv⟩,D16.mono (by omega),(K13.trans K714).trans K16⟩
  exact⟨Nat.le_of_lt (small1000 (by simp)),fin⟩
 try walk_at "w"
 split
 ·exact rest (-r0) r0z.neg
 ·exact rest r0 r0z
def Asc (t:Str)(n:Nat):Prop:=(∀ c∈t.cps.toList,c < 128)/\t.length<=n
theorem Asc.all {t:Str}{n:Nat}(h:Asc t n):t.cps.all (· < 128)=true:=by
 rw[Array.all_eq_true']
 intro c hc
 exact decide_eq_true (h.1 c (Array.mem_toList_iff.mpr hc))
theorem Asc.app {t u:Str}{n m:Nat}(h:Asc t n)(k:Asc u m):Asc (t++u) (n+m):=by
 have e:(t++u).cps=t.cps++u.cps:=rfl
 refine⟨λ c hc=>?_,?_⟩
 ·rw[e,Array.toList_append]at hc
  exact(List.mem_append.mp hc).elim (h.1 c) (k.1 c)
 ·show(t++u).cps.size<=_
  rw[e,Array.size_append]
  have h1:t.cps.size<=n:=h.2
  have h2:u.cps.size<=m:=k.2
  omega
theorem Asc.mono {t:Str}{n m:Nat}(h:Asc t n)(k:n<=m):Asc t m:=⟨h.1,Nat.le_trans h.2 k⟩
theorem Asc.slice {t:Str}{n:Nat}(h:Asc t n)(l u:Option Int):Asc (Txt.slice t l u) n:=by
 refine⟨λ c hc=>?_,Nat.le_trans (Txt.slice_le t l u) h.2⟩
 unfold Txt.slice at hc
 split at hc
 ·exact h.1 c hc
 ·obtain⟨i,_,e⟩:=List.mem_filterMap.mp (show c∈List.filterMap _ _ from hc)
  exact h.1 c (Array.mem_toList_iff.mpr (Array.mem_of_getElem? e))
theorem Asc.small {t:Str}{n:Nat}(h:Asc t n)(k:n<=1000):t.length<=sizeLine:=Nat.le_of_lt (small1000 (Nat.le_trans h.2 k))
theorem fn1w' {n:Nat}{b:Ms}{v:AV}{s:S}{Q:AV->S->Prop}(h:(b (some v :: List.replicate (n - 1) none) s).wp (λ _ s1=>Q .non s1) Q):(fnR n b [v] s).wp Q:=by rw[WS.2.2.2.2.2.2.2.2.2.2.2.2.2.2.2.1];exact h
theorem ix_sign {t:Str}{j:Int}{s:S}{n:Nat}(h:Asc t n)(hn:n<=1000)(h0:0<=j)(h1:j < t.length):∃ u,opIx (.str t) (.int j) s=.ok (.str u) s/\Asc u 1/\u.length=1:=by
 obtain⟨i,rfl⟩:∃ i:Nat,j=i:=⟨j.toNat,by omega⟩
 have hi:i < t.cps.toList.length:=by have:t.cps.toList.length=t.length:=Array.length_toList;omega
 refine⟨⟨#[t.cps.toList[i]]⟩,?_,⟨λ c hc=>?_,Nat.le_refl _⟩,rfl⟩
 ·show(if t.length<=sizeLine then need (atI t.cps.toList i) λ c=>R.ok (AV.str ⟨#[c]⟩) s else .bad)=_
  rw[if_pos (h.small hn),atI_nat (List.getElem?_eq_getElem hi)];rfl
 ·simp at hc
  subst hc
  exact h.1 _ (by simp)
theorem add_str {t u:Str}{s:S}(h:t.length+u.length<=1000):opAdd (.str t) (.str u) s=.ok (.str (t++u)) s:=if_pos (Nat.le_of_lt (small1000 h))
theorem abc_asc:Asc "abcdefghijklmnopqrstuvwxyz" 26:=⟨by decide +kernel,by decide +kernel⟩
theorem len_add (t u:Str):(t++u).length=t.length+u.length:=by
 show(t.cps++u.cps).size=_
 rw[Array.size_append];rfl
abbrev evS:Str:=" !\"#$&'()*+,-./0123456789:;<=>?@ABCDEFGHIJKLMNOPQRSTUVWXYZ[\\]^_`abcdefghijklmnopqrstuvwxyz{|}~"
theorem ev_asc:Asc evS 94:=⟨by decide +kernel,by decide +kernel⟩
theorem ev_len:evS.length=94:=by decide +kernel
theorem abc_len:("abcdefghijklmnopqrstuvwxyz":Str).length=26:=by decide +kernel
theorem gc_ok {m:Ev}{env:En}{s z:S}{v:AV}(h:m env s=.ok v (s++z)) (l:v.low s.length=true):gcE m env s=.ok v s:=by
 unfold gcE
 rw[h,bind_ok',if_pos ⟨by rw[List.take_left'] ;rfl,l⟩]
theorem any_name_wp {c d n:Nat}{s:S}(D:Dr c d n s)(hn:n<=900000000):(f__law_any_name [.ref d] s).wp λ v s'=>∃ t,v=.str t/\Asc t 20/\Dr c d (n+20) s'/\Kp c d s s':=by
 unfold f__law_any_name b__law_any_name
 refine fn1w' ?_
 refine seq_step λ K hK=>?_
 try walk_at "w"
 rw[hK]
 clear hK K
 refine seq_step λ K hK=>?_
 try simp only[↓WS,↓WE,↓WV,Lq,len_sz,UU,Nat.reduceSub,↓reduceIte,↓wp_srcR]
 refine(take_wp D (by omega) (by omega) (fit9 (by omega) (by omega))).mono ?_
 rintro _ s1 ⟨r,rfl,r0,r1,D1,K1⟩
 try walk_at "w"
 refine⟨⟨by omega,by omega⟩,?_⟩
 refine for_wp (λ xs env st=>∃ (t:Str) (x:Option AV) (z:Nat),env=[some (.ref d),some (.str t),x,none,none,none,none]/\t.length=z/\xs.length+z=(1+r).toNat/\Asc t z/\Dr c d (n+1+z) st/\Kp c d s st) ?_ ?_ ?_ _ _ _ ⟨"",none,0,rfl,rfl,by simp[rngA],⟨(λ c hc=>by cases hc),Nat.le_refl _⟩,D1,K1⟩
 ·exact λ _ _ st _=>gOk_nil st
 ·rintro env st ⟨t,x,z,rfl,hz,hx,ha,Dt,Kt⟩
  rw[hK]
  clear hK K
  simp only[List.length_nil,Nat.zero_add]at hx
  refine seq_step λ K hK=>?_
  try walk_at "w"
  rw[hK]
  clear hK K
  refine seq_step λ K hK=>?_
  have z8:z<=8:=by omega
  have z1:1<=z:=by omega
  try walk_at "w"
  rw[wpe (len_wp (ha.small (by omega)))]
  refine(take_wp Dt (by omega) (by omega) (fit9 (by omega) (by omega))).mono ?_
  rintro _ s2 ⟨sp,rfl,sp0,sp1,D2,K2⟩
  try walk_at "w"
  refine(take_wp D2 (by omega) (by omega) (fit9 (by omega) (by omega))).mono ?_
  rintro _ s3 ⟨wy,rfl,wy0,wy1,D3,K3⟩
  try walk_at "w"
  rw[hK]
  clear hK K
  refine seq_step λ K hK=>?_
  try walk_at "w"
  rw[wpe (show opLen [.str evS] s3=.ok (.int 94) s3 from by rw[len_wp (ev_asc.small (by omega)),ev_len];rfl)]
  refine(take_wp D3 (by omega) (by omega) (fit9 (by omega) (by omega))).mono ?_
  rintro _ s4 ⟨j,rfl,j0,j1,D4,K4⟩
  obtain⟨sg,eu,au,lu⟩:=ix_sign (t:=evS) (s:=s4) ev_asc (by omega) j0 (by rw[ev_len];exact j1)
  rw[wpe eu,hK]
  clear hK K eu
  let E:En:=[some (.ref d),some (.str t),x,some (.str evS),some (.str sg),some (.int sp),some (.int wy)]
  show(sRet _ E s4).wp _ _
  have hs:=ha.small (show z<=1000 by omega)
  have i1:mSlS (mv 1) oN (oS (mv 5)) E s4=.ok (.str (Txt.slice t none (some sp))) s4:=if_pos hs
  have i2:mSlS (mv 1) (oS (mv 5)) oN E s4=.ok (.str (Txt.slice t (some sp) none)) s4:=if_pos hs
  have i3:mSlS (mv 1) (oS (mBin opAdd (mv 5) (mc (.int 1)))) oN E s4=.ok (.str (Txt.slice t (some (sp+1)) none)) s4:=if_pos hs
  have a1:=(ha.slice none (some sp)).app au
  have a2:=a1.app (ha.slice (some sp) none)
  have a3:=a1.app (ha.slice (some (sp+1)) none)
  have q0:=add_str (t:=Txt.slice t none (some sp)) (u:=sg) (s:=s4) (by have:=(ha.slice none (some sp)).2;omega)
  have q1:=add_str (t:=Txt.slice t none (some sp)++sg) (u:=Txt.slice t (some sp) none) (s:=s4) (by have:=a1.2;have:=(ha.slice (some sp) none).2;omega)
  have q2:=add_str (t:=Txt.slice t none (some sp)++sg) (u:=Txt.slice t (some (sp+1)) none) (s:=s4) (by have:=a1.2;have:=(ha.slice (some (sp+1)) none).2;omega)
  let L:List AV:=[.str t,.str (Txt.slice t none (some sp)++sg++Txt.slice t (some sp) none),.str (Txt.slice t none (some sp)++sg++Txt.slice t (some (sp+1)) none)]
  have l3:mNew (lLst (pCons (mv 1) (pCons (mBin opAdd (mBin opAdd (mSlS (mv 1) oN (oS (mv 5))) (mv 4)) (mSlS (mv 1) (oS (mv 5)) oN)) (pCons (mBin opAdd (mBin opAdd (mSlS (mv 1) oN (oS (mv 5))) (mv 4)) (mSlS (mv 1) (oS (mBin opAdd (mv 5) (mc (.int 1)))) oN)) pNil)))) E s4=.ok (.ref s4.length) (s4++[.lst L]):=
   new_ok (lLst_ok (cons_ok rfl (cons_ok (bin_ok (bin_ok i1 rfl q0) i2 q1) (cons_ok (bin_ok (bin_ok i1 rfl q0) i3 q2) rfl))) (by show(3:Nat)<=1000;decide))
  obtain⟨u,hu,ex⟩:=ix_at (s:=s4++[.lst L]) (i:=s4.length) (xs:=L) (j:=wy) (lst_last _ _) wy0 (by show wy < ((3:Nat):Int);omega)
  obtain⟨tt,rfl,ht⟩:∃ tt:Str,u=.str tt/\Asc tt 20:=by
   simp only[L,List.mem_cons,List.not_mem_nil,or_false]at hu
   rcases hu with rfl|rfl|rfl
   ·exact⟨_,rfl,ha.mono (by omega)⟩
   ·exact⟨_,rfl,a2.mono (by omega)⟩
   ·exact⟨_,rfl,a3.mono (by omega)⟩
  have g:gcE (mBin opIx (mNew (lLst (pCons (mv 1) (pCons (mBin opAdd (mBin opAdd (mSlS (mv 1) oN (oS (mv 5))) (mv 4)) (mSlS (mv 1) (oS (mv 5)) oN)) (pCons (mBin opAdd (mBin opAdd (mSlS (mv 1) oN (oS (mv 5))) (mv 4)) (mSlS (mv 1) (oS (mBin opAdd (mv 5) (mc (.int 1)))) oN)) pNil))))) (mv 6)) E s4=.ok (.str tt) s4:=by
   refine gc_ok (z:=[.lst L]) ?_ (by simp[AV.low])
   show((mNew _ E s4).bind _)=_
   rw[l3]
   exact ex
  rw[ret_ok g]
  exact⟨tt,rfl,ht,D4.mono (by omega),((Kt.trans K2).trans K3).trans K4⟩
 ·rintro v l env st ⟨t,x,z,rfl,hz,hx,ha,Dt,Kt⟩
  try walk_at "w"
  refine(take_wp Dt (by simp only[List.length_cons]at hx;omega) (by omega) (fit9 (by omega) (by omega))).mono ?_
  rintro _ s2 ⟨j,rfl,j0,j1,D2,K2⟩
  obtain⟨u,eu,au,lu⟩:=ix_sign (s:=s2) abc_asc (by omega) j0 (by rw[abc_len];exact j1)
  simp only[List.length_cons]at hx
  have e2:=add_str (t:=t) (u:=u) (s:=s2) (by omega)
  try simp only[↓WS,↓WE,↓WV,Lq,len_sz,UU,Nat.reduceSub,↓reduceIte,↓wpe eu,↓wpe e2]
  exact⟨t++u,_,z+1,rfl,by rw[len_add];omega,by omega,ha.app au,D2,Kt.trans K2⟩
theorem tag_gk {c d n m:Nat}{s s':S}{v:AV}{t:String}(D:Dr c d n s)(D':Dr c d m s')(G:Gk c d s s')(h:tagOf v s=some t):tagOf v s'=some t:=by
 cases v with
 | ref i=>
  obtain⟨⟨t1,cells,h1,h2,_⟩,_⟩:=D
  obtain⟨⟨t1',cells',h1',h2',_⟩,_⟩:=D'
  simp only[tagOf]at h ⊢
  by_cases e1:i=c
  ·subst e1;rw[h2]at h;rw[h2'];exact h
  by_cases e2:i=d
  ·subst e2;rw[h1]at h;rw[h1'];exact h
  cases e:s[i]? with
  | none=>rw[e]at h;cases h
  | some o=>rw[G.get i (List.getElem?_eq_some_iff.mp e).1 e1 e2,e];rw[e]at h;exact h
 | _=>exact h
theorem leaf_gk {c d n m:Nat}{s s':S}{v:AV}(D:Dr c d n s)(D':Dr c d m s')(G:Gk c d s s')(h:leafOk s v):leafOk s' v:=by
 obtain⟨⟨t,ht⟩,h⟩:=h
 exact⟨⟨t,tag_gk D D' G ht⟩,h⟩
theorem okD_gk {c d n m:Nat}{s s':S}(D:Dr c d n s)(D':Dr c d m s')(G:Gk c d s s'):∀ {k:Nat}{v:AV},okD k s v->okD k s' v
 | 0,_,h=>leaf_gk D D' G h
 | k+1,v,h=>⟨leaf_gk D D' G h.1,λ xs e=>⟨(h.2 xs e).1,λ x hx=>okD_gk D D' G ((h.2 xs e).2 x hx)⟩⟩
theorem tag_set {s:S}{i:Nat}{xs ys:List AV}{v:AV}{t:String}(hl:lstO s i=some xs)(h:tagOf v s=some t):tagOf v (s.set i (.lst ys))=some t:=by
 cases v with
 | ref j=>
  simp only[tagOf]at h ⊢
  by_cases e:i=j
  ·subst e
   have hi:=lstO_inv hl
   rw[List.getElem?_set_self (List.getElem?_eq_some_iff.mp hi).1]
   rw[hi]at h
   exact h
  ·rw[List.getElem?_set_ne e];exact h
 | _=>exact h
theorem okD_set {s:S}{i:Nat}{xs ys:List AV}(hl:lstO s i=some xs):∀ {k:Nat}{v:AV},okD k s v->okD k (s.set i (.lst ys)) v
 | 0,_,h=>⟨h.1.elim λ t ht=>⟨t,tag_set hl ht⟩,h.2⟩
 | k+1,v,h=>⟨⟨h.1.1.elim λ t ht=>⟨t,tag_set hl ht⟩,h.1.2⟩,λ zs e=>⟨(h.2 zs e).1,λ x hx=>okD_set hl ((h.2 zs e).2 x hx)⟩⟩
structure Th (s:S)(v:AV):Prop where
 ok:okD 1 s v
 dp:depA v<=3
 lw:v.low s.length=true
theorem Th.gk {c d n m:Nat}{s s':S}{v:AV}(D:Dr c d n s)(D':Dr c d m s')(G:Gk c d s s')(h:Th s v):Th s' v:=⟨okD_gk D D' G h.ok,h.dp,AV.low.mono G.len h.lw⟩
theorem okD_leaf {s:S}{v:AV}(h:leafOk s v)(k:∀ xs,v≠.tup xs):okD 1 s v:=⟨h,λ xs e=>absurd e (k xs)⟩
theorem th_bl (s:S)(b:Bool):Th s (.bl b):=⟨okD_leaf ⟨⟨_,rfl⟩,trivial⟩ (by simp),by simp[depA],by simp[AV.low]⟩
theorem th_non (s:S):Th s .non:=⟨okD_leaf ⟨⟨_,rfl⟩,trivial⟩ (by simp),by simp[depA],by simp[AV.low]⟩
theorem th_int (s:S){i:Int}(h:Fit 900 i):Th s (.int i):=⟨okD_leaf ⟨⟨_,rfl⟩,h⟩ (by simp),by simp[depA],by simp[AV.low]⟩
theorem th_str (s:S){t:Str}{n:Nat}(h:Asc t n)(hn:n<=1000):Th s (.str t):=⟨okD_leaf ⟨⟨_,rfl⟩,h.all,h.small hn⟩ (by simp),by simp[depA],by simp[AV.low]⟩
theorem th_lst {s:S}{i:Nat}{xs:List AV}(h:lstO s i=some xs):Th s (.ref i):=by
 have hi:=lstO_inv h
 refine⟨okD_leaf ⟨⟨"list",by simp only[tagOf,hi]⟩,trivial⟩ (by simp),by simp[depA],?_⟩
 simp only[AV.low,decide_eq_true_eq]
 exact(List.getElem?_eq_some_iff.mp hi).1
theorem th_tup {s:S}{xs:List AV}(hl:xs.length<=1000)(h:∀ x∈xs,leafOk s x/\depA x<=2/\x.low s.length=true):Th s (.tup xs):=by
 refine⟨⟨⟨⟨_,rfl⟩,trivial⟩,λ ys e=>?_⟩,?_,?_⟩
 ·cases e
  exact⟨Nat.le_of_lt (small1000 hl),λ x hx=>(h x hx).1⟩
 ·clear hl
  have:depAs xs<=2:=by
   induction xs with
   | nil=>simp[depAs]
   | cons a r ih=>simp only[depAs];exact Nat.max_le.mpr ⟨(h a (.head _)).2.1,ih λ x hx=>h x (.tail _ hx)⟩
  simp only[depA];omega
 ·simp only[AV.low]
  clear hl
  induction xs with
  | nil=>simp[lowL]
  | cons a r ih=>simp only[lowL,(h a (.head _)).2.2,ih λ x hx=>h x (.tail _ hx)];rfl
theorem Th.in1 {s:S}{v:AV}(h:Th s v)(k:depA v<=2):leafOk s v/\depA v<=2/\v.low s.length=true:=⟨h.ok.leaf,k,h.lw⟩
theorem th_tupI {s:S}{is:List Int}(hl:is.length<=1000)(h:∀ i∈is,Fit 900 i):Th s (.tup (is.map AV.int)):=th_tup (by simpa using hl) λ x hx=>by
 obtain⟨i,hi,rfl⟩:=List.mem_map.mp hx
 exact(th_int s (h i hi)).in1 (by simp[depA])
theorem cons_st {m:Ev}{r:Evs}{env:En}{s s1 s2:S}{v:AV}{vs:List AV}(h:m env s=.ok v s1)(k:r env s1=.ok vs s2):pCons m r env s=.ok (v :: vs) s2:=by unfold pCons;rw[h,bind_ok',k];rfl
theorem lLst_st {r:Evs}{env:En}{s s1:S}{vs:List AV}(h:r env s=.ok vs s1)(hl:vs.length<=1000):lLst r env s=.ok vs s1:=by
 unfold lLst
 rw[h,bind_ok',if_pos (Nat.le_of_lt (small1000 hl))]
theorem new_st {L:Evs}{env:En}{s s1:S}{xs:List AV}(h:L env s=.ok xs s1):mNew L env s=.ok (.ref s1.length) (s1++[.lst xs]):=by unfold mNew;rw[h];rfl
theorem tup_st {r:Evs}{env:En}{s s1:S}{vs:List AV}(h:r env s=.ok vs s1)(hl:vs.length<=1000):mTup r env s=.ok (.tup vs) s1:=by
 unfold mTup
 rw[h,bind_ok',if_pos (Nat.le_of_lt (small1000 hl))]
theorem push {c d n:Nat}{st:S}{xs:List AV}(D:Dr c d n st)(h:∀ x∈xs,Th st x):Dr c d n (st++[.lst xs])/\Gk c d st (st++[.lst xs])/\∀ x,Th st x->Th (st++[.lst xs]) x:=by
 have lw:∀ l:List AV,(∀ x∈l,Th st x)->lowL st.length l=true:=by
  intro l
  induction l with
  | nil=>intro _;simp[lowL]
  | cons a r ih=>intro h;simp only[lowL,(h a (.head _)).lw,ih λ x hx=>h x (.tail _ hx)];rfl
 have D':=D.app (e:=[.lst xs]) (D.cl.add (by simp only[List.all_cons,List.all_nil,Bool.and_true];exact lowL.mono (by simp) (lw xs h)))
 exact⟨D',Gk.app c d st _,λ x hx=>hx.gk D D' (Gk.app c d st _)⟩
theorem add_lst {s:S}{i j:Nat}{xs ys:List AV}(h:lstO s i=some xs)(k:lstO s j=some ys)(hl:xs.length+ys.length<=1000):opAdd (.ref i) (.ref j) s=.ok (.ref s.length) (s++[.lst (xs++ys)]):=by
 show(need (lstO s i) λ xs=>need (lstO s j) λ ys=>if xs.length+ys.length<=sizeLine then R.ok (AV.ref s.length) (s++[.lst (xs++ys)]) else .bad)=_
 rw[h,need_some,k,need_some,if_pos (Nat.le_of_lt (small1000 hl))]
theorem depAs_le {n:Nat}:∀ {l:List AV},(∀ x∈l,depA x<=n)->depAs l<=n
 | [],_=>by simp[depAs]
 | a :: r,h=>by simp only[depAs];exact Nat.max_le.mpr ⟨h a (.head _),depAs_le λ x hx=>h x (.tail _ hx)⟩
theorem lowL_of {b:Nat}:∀ {l:List AV},(∀ x∈l,x.low b=true)->lowL b l=true
 | [],_=>by simp[lowL]
 | a :: r,h=>by simp only[lowL,h a (.head _),lowL_of λ x hx=>h x (.tail _ hx)];rfl
structure Odd (c d n:Nat)(s:S)(v:AV)(s':S):Prop where
 ok:okD 2 s' v
 dp:depA v<=5
 lw:v.low s'.length=true
 dr:Dr c d n s'
 gk:Gk c d s s'
theorem Th.odd {c d n:Nat}{s s':S}{v:AV}(h:Th s' v)(k:∀ xs,v=.tup xs->∀ x∈xs,okD 1 s' x)(D:Dr c d n s')(G:Gk c d s s'):Odd c d n s v s':=
 ⟨⟨h.ok.leaf,λ xs e=>⟨(h.ok.2 xs e).1,k xs e⟩⟩,by have:=h.dp;omega,h.lw,D,G⟩
theorem rows_odd {c d n:Nat}{s st:S}{xs:List AV}(hl:xs.length<=1000)(h:∀ x∈xs,Th st x)(D:Dr c d n st)(G:Gk c d s st):Odd c d n s (.tup xs) st:=by
 refine⟨⟨⟨⟨_,rfl⟩,trivial⟩,λ ys e=>?_⟩,?_,?_,D,G⟩
 ·cases e;exact⟨Nat.le_of_lt (small1000 hl),λ x hx=>(h x hx).ok⟩
 ·have:=depAs_le (l:=xs) (n:=3) λ x hx=>(h x hx).dp
  simp only[depA];omega
 ·simp only[AV.low];exact lowL_of λ x hx=>(h x hx).lw
theorem fin_set {c d n m:Nat}{s st:S}{i:Nat}{u:AV}{R:List AV}(Ds:Dr c d m s)(D:Dr c d n st)(G:Gk c d s st)(f:lstO st s.length=some R)(hR:∀ x∈R,Th st x)(lR:R.length=9)(hu:Th st u) :
  lstO (st.set s.length (.lst (R.set i u))) s.length=some (R.set i u)/\Odd c d n s (.tup (R.set i u)) (st.set s.length (.lst (R.set i u))):=by
 have hi:=lstO_inv f
 have hlt:=(List.getElem?_eq_some_iff.mp hi).1
 have hx:∀ x∈R.set i u,Th st x:=λ x hx=>(List.mem_or_eq_of_mem_set hx).elim (hR x) (λ e=>e ▸ hu)
 refine⟨lstO_of (List.getElem?_set_self hlt),rows_odd (by rw[List.length_set];omega) (λ x h=>?_) ?_ ?_⟩
 ·have h:=hx x h
  exact⟨okD_set f h.ok,h.dp,by rw[List.length_set];exact h.lw⟩
 ·exact D.set (by have:=Ds.ltc;omega) (by have:=Ds.ltd;omega) (lowL_of λ x h=>(hx x h).lw)
 ·exact⟨by rw[List.length_set];exact G.len,λ j hj h1 h2=>by rw[List.getElem?_set_ne (by omega)];exact G.get j hj h1 h2⟩
theorem add_tup {xs ys:List AV}{s:S}(h:ys≠[])(hl:xs.length+ys.length<=1000):opAdd (.tup xs) (.tup ys) s=.ok (.tup (xs++ys)) s:=if_pos ⟨h,Nat.le_of_lt (small1000 hl)⟩
theorem gsub_wp {o i:Ev}{v:AV}{env:En}{s s2:S}{f:Nat}{j:Int}{m:Nat}{xs:List AV}{N:En->S->Prop}{T:AV->S->Prop}(e1:o env s=.ok (.ref f) s) (e2:i env s=.ok (.int j) s2) (h:lstO s2 f=some xs)(hj:ixN xs.length j=some m)(k:N env (s2.set f (.lst (xs.set m v)))):(gSubL o i v env s).wp N T:=by
 rw[wp_gSubL,wpe e1,wpe e2]
 simp only[h,hj]
 exact k
theorem odd_wp {c d n:Nat}{s:S}(D:Dr c d n s)(hn:n<=900000000){p:Str}{e f:Rat}{w dd:Int}{r k:Rat}{g a:Int}(hp:Asc p 8)(he:Sz 700 e)(hf:Sz 700 f)(hr:Sz 700 r)(hk:Sz 700 k)(hw:Fit 400 w)(hd:Fit 400 dd)(hg:Fit 400 g)(ha:Fit 400 a) :
  (f__law_odd [.ref d,rowA p e f w dd r k g a] s).wp λ v s'=>Odd c d (n+10) s v s':=by
 unfold f__law_odd b__law_odd
 refine fn2w' ?_
 have rw0:items (rowA p e f w dd r k g a) s=some [.str p,fq e,fq f,.int w,.int dd,fq r,fq k,.int g,.int a]:=rfl
 let R9:List AV:=[.str p,fq e,fq f,.int w,.int dd,fq r,fq k,.int g,.int a]
 refine seq_step λ K hK=>?_
 have l1:mNew (gOp qList (lIts (mv 1))) [some (.ref d),some (rowA p e f w dd r k g a),none,none,none,none,none] s=.ok (.ref s.length) (s++[.lst R9]):=new_ok rfl
 refine Eq.mpr (set_ok l1 _ _) ?_
 rw[hK]
 clear hK K l1
 have low9:∀ b,lowL b R9=true:=λ b=>by simp[R9,lowL,AV.low,low_fq3]
 have D1:=D.app (e:=[.lst R9]) (D.cl.add (by simp only[List.all_cons,List.all_nil,Bool.and_true];exact low9 _))
 have G1:=Gk.app c d s [.lst R9]
 have f1:=lst_last s R9
 generalize hs1:s++[AO.lst R9]=s1 at *
 refine seq_step λ K hK=>?_
 try walk_at "w"
 refine(take_wp D1 (by omega) (by omega) (fit9 (by omega) (by omega))).mono ?_
 rintro _ s2 ⟨q,rfl,q0,q1,D2,K2⟩
 try walk_at "w"
 rw[hK]
 clear hK K
 have f2:lstO s2 s.length=some R9:=K2.gk.lst (n:=0) (by have:=D.ltc;omega) (by have:=D.ltd;omega) f1
 have G2:=G1.trans K2.gk
 clear f1 G1 K2 D1 hs1
 refine seq_step λ K hK=>?_
 try walk_at "w"
 refine(show K [some (.ref d),some (rowA p e f w dd r k g a),some (.ref s.length),some (.int q),none,some (.int e.num),some (.int e.den)] s2 from ?_)
 rw[hK]
 clear hK K
 have en9:Fit 900 e.num:=he.a.mono (by decide)
 have ed9:Fit 900 (e.den:Int):=he.b.mono (by decide)
 let E4:En:=[some (.ref d),some (rowA p e f w dd r k g a),some (.ref s.length),some (.int q),none,some (.int e.num),some (.int e.den)]
 show(sSeq _ _ E4 s2).wp _ _
 refine seq_step λ K hK=>?_
 have i2:∀ st,mNew (lLst (pCons (mv 5) (pCons (mv 6) pNil))) E4 st=.ok (.ref st.length) (st++[.lst [.int e.num,.int e.den]]):=λ st=>new_st (lLst_st (cons_st rfl (cons_st rfl rfl)) (by simp))
 have t1:∀ st,mTup (pCons (mv 5) pNil) E4 st=.ok (.tup [.int e.num]) st:=λ st=>tup_ok (cons_ok rfl rfl) (by simp)
 have t2:∀ st,mTup (pCons (mv 5) (pCons (mc (.int 0)) pNil)) E4 st=.ok (.tup [.int e.num,.int 0]) st:=λ st=>tup_ok (cons_ok rfl (cons_ok rfl rfl)) (by simp)
 obtain⟨D3,G3,T3⟩:=push D2 (xs:=[.int e.num,.int e.den]) (by intro x hx;simp only[List.mem_cons,List.not_mem_nil,or_false]at hx;rcases hx with rfl|rfl<;>first|exact th_int _ en9|exact th_int _ ed9)
 have l3:=lst_last s2 [.int e.num,.int e.den]
 generalize hs3:s2++[AO.lst [.int e.num,.int e.den]]=s3 at *
 let L7:List AV:=[.bl true,.bl false,.non,.str "1",.tup [.int e.num],.ref s2.length,.tup [.int e.num,.int 0]]
 have m4:mNew (lLst (pCons (mc (.bl true)) (pCons (mc (.bl false)) (pCons (mc .non) (pCons (mc (.str "1")) (pCons (mTup (pCons (mv 5) pNil)) (pCons (mNew (lLst (pCons (mv 5) (pCons (mv 6) pNil)))) (pCons (mTup (pCons (mv 5) (pCons (mc (.int 0)) pNil))) pNil)))))))) E4 s2=.ok (.ref s3.length) (s3++[.lst L7]):=
  new_st (lLst_st (cons_st rfl (cons_st rfl (cons_st rfl (cons_st rfl (cons_st (t1 _) (cons_st (show _=R.ok (AV.ref s2.length) s3 by rw[i2 s2,hs3]) (cons_st (t2 _) rfl))))))) (by show(7:Nat)<=1000;decide))
 have f0:Fit 900 (0:Int):=(fitI (n:=2) (by decide) (by decide)).mono (by decide)
 have f12:Fit 900 (1:Int)/\Fit 900 (2:Int):=⟨(fitI (n:=2) (by decide) (by decide)).mono (by decide),(fitI (n:=2) (by decide) (by decide)).mono (by decide)⟩
 have a1:Asc "1" 1:=⟨by decide +kernel,by decide +kernel⟩
 have a2:Asc "2" 1:=⟨by decide +kernel,by decide +kernel⟩
 have th7:∀ x∈L7,Th s3 x:=by
  intro x hx
  simp only[L7,List.mem_cons,List.not_mem_nil,or_false]at hx
  rcases hx with rfl|rfl|rfl|rfl|rfl|rfl|rfl
  ·exact th_bl _ _
  ·exact th_bl _ _
  ·exact th_non _
  ·exact th_str _ a1 (by decide)
  ·exact th_tupI (is:=[e.num]) (by simp) (by simpa using en9)
  ·exact th_lst l3
  ·exact th_tupI (is:=[e.num,0]) (by simp) (by simpa using⟨en9,f0⟩)
 refine Eq.mpr (set_ok m4 _ _) ?_
 rw[hK]
 clear hK K m4
 obtain⟨D4,G4,T4⟩:=push D3 th7
 have l4:=lst_last s3 L7
 have th7:∀ x∈L7,Th (s3++[.lst L7]) x:=λ x hx=>T4 x (th7 x hx)
 have f4:lstO (s3++[.lst L7]) s.length=some R9:=lst_old (by rw[<-hs3];exact lst_old f2)
 have Gs4:=(G2.trans G3).trans G4
 generalize hs4:s3++[AO.lst L7]=s4 at *
 let E5:En:=[some (.ref d),some (rowA p e f w dd r k g a),some (.ref s.length),some (.int q),some (.ref s3.length),some (.int e.num),some (.int e.den)]
 show(sSeq _ _ E5 s4).wp _ _
 refine seq_step λ K hK=>?_
 have edp:=e.den_pos
 have bg:∀ {i:Int},Fit 900 i->Big i:=λ h=>big_of h (by decide)
 let L4:List AV:=[.tup [.int (2 * e.num),.int (2 * (e.den:Int))],.tup [.int (-e.num),.int (-(e.den:Int))],.tup [.int e.num,.int e.den,.int 1],.tup [.int (e.num.fdiv e.den),.bl true]]
 have m5:mNew (lLst (pCons (mTup (pCons (mBin opMul (mc (.int 2)) (mv 5)) (pCons (mBin opMul (mc (.int 2)) (mv 6)) pNil))) (pCons (mTup (pCons (mUn opNeg (mv 5)) (pCons (mUn opNeg (mv 6)) pNil))) (pCons (mTup (pCons (mv 5) (pCons (mv 6) (pCons (mc (.int 1)) pNil)))) (pCons (mTup (pCons (mBin opFdiv (mv 5) (mv 6)) (pCons (mc (.bl true)) pNil))) pNil))))) E5 s4=.ok (.ref s4.length) (s4++[.lst L4]):=
  new_st (lLst_st (cons_st (tup_ok (cons_ok (bin_ok rfl rfl (mul_ok (bg f12.2) (bg en9))) (cons_ok (bin_ok rfl rfl (mul_ok (bg f12.2) (bg ed9))) rfl)) (by simp)) (cons_st (tup_ok (vs:=[.int (-e.num),.int (-(e.den:Int))]) rfl (by simp)) (cons_st (tup_ok (vs:=[.int e.num,.int e.den,.int 1]) rfl (by simp)) (cons_st (tup_ok (cons_ok (bin_ok rfl rfl (fdiv_ok (by omega) (mid_of ed9 (by decide)))) (cons_ok rfl rfl)) (by simp)) rfl)))) (by show(4:Nat)<=1000;decide))
 have dbl:∀ {i:Int},Fit 700 i->Fit 900 (2 * i):=λ h=>((fitI (n:=2) (i:=2) (by decide) (by decide)).mul h).mono (by decide)
 have th4:∀ x∈L4,Th s4 x:=by
  intro x hx
  simp only[L4,List.mem_cons,List.not_mem_nil,or_false]at hx
  rcases hx with rfl|rfl|rfl|rfl
  ·exact th_tupI (is:=[2 * e.num,2 * (e.den:Int)]) (by simp) (by simpa using⟨dbl he.a,dbl he.b⟩)
  ·exact th_tupI (is:=[-e.num,-(e.den:Int)]) (by simp) (by simpa using⟨en9.neg,ed9.neg⟩)
  ·exact th_tupI (is:=[e.num,(e.den:Int),1]) (by simp) (by simpa using⟨en9,ed9,f12.1⟩)
  ·refine th_tup (by simp) λ x hx=>?_
   simp only[List.mem_cons,List.not_mem_nil,or_false]at hx
   rcases hx with rfl|rfl
   ·exact(th_int _ (fit_fdiv3 en9 (by omega))).in1 (by simp[depA])
   ·exact(th_bl _ _).in1 (by simp[depA])
 obtain⟨D5,G5,T5⟩:=push D4 th4
 have l5:lstO (s4++[.lst L4]) s3.length=some L7:=lst_old l4
 have o5:=add_lst l5 (lst_last s4 L4) (by show(11:Nat)<=1000;decide)
 have m5':mBin opAdd (mv 4) (mNew (lLst (pCons (mTup (pCons (mBin opMul (mc (.int 2)) (mv 5)) (pCons (mBin opMul (mc (.int 2)) (mv 6)) pNil))) (pCons (mTup (pCons (mUn opNeg (mv 5)) (pCons (mUn opNeg (mv 6)) pNil))) (pCons (mTup (pCons (mv 5) (pCons (mv 6) (pCons (mc (.int 1)) pNil)))) (pCons (mTup (pCons (mBin opFdiv (mv 5) (mv 6)) (pCons (mc (.bl true)) pNil))) pNil)))))) E5 s4=.ok (.ref (s4++[AO.lst L4]).length) (s4++[.lst L4]++[.lst (L7++L4)]):=by
  show((mNew _ E5 s4).bind _)=_
  rw[m5];exact o5
 refine Eq.mpr (set_ok m5' _ _) ?_
 rw[hK]
 clear hK K m5 m5' o5
 have th11:∀ x∈L7++L4,Th (s4++[.lst L4]) x:=λ x hx=>(List.mem_append.mp hx).elim (λ h=>T5 x (th7 x h)) (λ h=>T5 x (th4 x h))
 obtain⟨D6,G6,T6⟩:=push D5 th11
 have l6:=lst_last (s4++[.lst L4]) (L7++L4)
 have th11:∀ x∈L7++L4,Th (s4++[.lst L4]++[.lst (L7++L4)]) x:=λ x hx=>T6 x (th11 x hx)
 have f6:lstO (s4++[.lst L4]++[.lst (L7++L4)]) s.length=some R9:=lst_old (lst_old f4)
 have Gs6:=(Gs4.trans G5).trans G6
 generalize hs5:(s4++[AO.lst L4]).length=i6 at *
 generalize hs6:s4++[AO.lst L4]++[AO.lst (L7++L4)]=s6 at *
 let E6:En:=[some (.ref d),some (rowA p e f w dd r k g a),some (.ref s.length),some (.int q),some (.ref i6),some (.int e.num),some (.int e.den)]
 show(sSeq _ _ E6 s6).wp _ _
 refine seq_step λ K hK=>?_
 have o1:mNew (lLst (pCons (mv 5) pNil)) E6 s6=.ok (.ref s6.length) (s6++[.lst [.int e.num]]):=new_st (lLst_st (cons_st rfl rfl) (by simp))
 obtain⟨D7,G7,T7⟩:=push D6 (xs:=[.int e.num]) (by intro x hx;simp only[List.mem_cons,List.not_mem_nil,or_false]at hx;subst hx;exact th_int _ en9)
 have l7:=lst_last s6 [.int e.num]
 have f7:lstO (s6++[.lst [.int e.num]]) s.length=some R9:=lst_old f6
 have l67:lstO (s6++[.lst [.int e.num]]) i6=some (L7++L4):=lst_old l6
 generalize hs7:s6++[AO.lst [.int e.num]]=s7 at *
 let L6:List AV:=[.tup [.str "1",.int 2],.tup [.non,.int 2],.tup [.int e.num,.str "2"],.tup [.int e.num,.non],.tup [.ref s6.length,.int 2],.tup [.tup [.int e.num],.int 2]]
 have m6:mNew (lLst (pCons (mTup (pCons (mc (.str "1")) (pCons (mc (.int 2)) pNil))) (pCons (mTup (pCons (mc .non) (pCons (mc (.int 2)) pNil))) (pCons (mTup (pCons (mv 5) (pCons (mc (.str "2")) pNil))) (pCons (mTup (pCons (mv 5) (pCons (mc .non) pNil))) (pCons (mTup (pCons (mNew (lLst (pCons (mv 5) pNil))) (pCons (mc (.int 2)) pNil))) (pCons (mTup (pCons (mTup (pCons (mv 5) pNil)) (pCons (mc (.int 2)) pNil))) pNil))))))) E6 s6=.ok (.ref s7.length) (s7++[.lst L6]):=
  new_st (lLst_st (cons_st (tup_ok (cons_ok rfl (cons_ok rfl rfl)) (by simp)) (cons_st (tup_ok (cons_ok rfl (cons_ok rfl rfl)) (by simp)) (cons_st (tup_ok (cons_ok rfl (cons_ok rfl rfl)) (by simp)) (cons_st (tup_ok (cons_ok rfl (cons_ok rfl rfl)) (by simp)) (cons_st (tup_st (cons_st o1 (cons_st rfl rfl)) (by simp)) (cons_st (tup_ok (cons_ok (tup_ok (cons_ok rfl rfl) (by simp)) (cons_ok rfl rfl)) (by simp)) rfl)))))) (by show(6:Nat)<=1000;decide))
 have th2:Th s7 (.int 2):=th_int _ f12.2
 have thn:Th s7 (.int e.num):=th_int _ en9
 have pr:∀ {x y:AV},Th s7 x->Th s7 y->depA x<=2->depA y<=2->Th s7 (.tup [x,y]):=λ {x y} h k hx hy=>th_tup (by simp) λ z hz=>by
  simp only[List.mem_cons,List.not_mem_nil,or_false]at hz
  rcases hz with rfl|rfl
  ·exact h.in1 hx
  ·exact k.in1 hy
 have th6:∀ x∈L6,Th s7 x:=by
  intro x hx
  simp only[L6,List.mem_cons,List.not_mem_nil,or_false]at hx
  rcases hx with rfl|rfl|rfl|rfl|rfl|rfl
  ·exact pr (th_str _ a1 (by decide)) th2 (by simp[depA]) (by simp[depA])
  ·exact pr (th_non _) th2 (by simp[depA]) (by simp[depA])
  ·exact pr thn (th_str _ a2 (by decide)) (by simp[depA]) (by simp[depA])
  ·exact pr thn (th_non _) (by simp[depA]) (by simp[depA])
  ·exact pr (th_lst l7) th2 (by simp[depA]) (by simp[depA])
  ·exact pr (th_tupI (is:=[e.num]) (by simp) (by simpa using en9)) th2 (by simp[depA,depAs]) (by simp[depA])
 obtain⟨D8,G8,T8⟩:=push D7 th6
 have o8:=add_lst (lst_old (e:=[.lst L6]) l67) (lst_last s7 L6) (by show(17:Nat)<=1000;decide)
 have m6':∀ M:Ev,M E6 s6=.ok (.ref s7.length) (s7++[.lst L6])->mBin opAdd (mv 4) M E6 s6=.ok (.ref (s7++[AO.lst L6]).length) (s7++[.lst L6]++[.lst (L7++L4++L6)]):=λ M hM=>by
  show((M E6 s6).bind _)=_
  rw[hM];exact o8
 refine Eq.mpr (set_ok (m6' _ m6) _ _) ?_
 rw[hK]
 clear hK K m6 m6' o8
 have th17:∀ x∈L7++L4++L6,Th (s7++[.lst L6]) x:=λ x hx=>(List.mem_append.mp hx).elim (λ h=>T8 x (T7 x (th11 x h))) (λ h=>T8 x (th6 x h))
 obtain⟨D9,G9,T9⟩:=push D8 th17
 have l9:=lst_last (s7++[.lst L6]) (L7++L4++L6)
 have th17:∀ x∈L7++L4++L6,Th (s7++[.lst L6]++[.lst (L7++L4++L6)]) x:=λ x hx=>T9 x (th17 x hx)
 have f9:lstO (s7++[.lst L6]++[.lst (L7++L4++L6)]) s.length=some R9:=lst_old (lst_old f7)
 have Gs9:=((Gs6.trans G7).trans G8).trans G9
 have n17:(L7++L4++L6).length=17:=rfl
 have hi9:s.length<=(s7++[AO.lst L6]).length:=((Gs6.trans G7).trans G8).len
 generalize hs8:(s7++[AO.lst L6]).length=i9 at *
 generalize hs9:s7++[AO.lst L6]++[AO.lst (L7++L4++L6)]=s9 at *
 generalize hL:L7++L4++L6=L17 at *
 clear hs3 hs4 hs5 hs6 hs7 hs8 hs9 hL G2 Gs4 Gs6 G3 G4 G5 G6 G7 G8 G9 T3 T4 T5 T6 T7 T8 T9 D2 D3 D4 D5 D6 D7 D8 th11 th7 th4 th6 f2 f4 f6 f7 l3 l4 l5 l6 l7 l67 pr th2 thn o1 t1 t2 i2
 have th9:∀ {st:S},∀ x∈R9,Th st x:=by
  intro st x hx
  have q2:∀ {y:Rat},Sz 700 y->Th st (fq y):=λ {y} h=>th_tupI (is:=[y.num,(y.den:Int)]) (by simp) (by simpa using⟨h.a.mono (by decide),h.b.mono (by decide)⟩)
  simp only[R9,List.mem_cons,List.not_mem_nil,or_false]at hx
  rcases hx with rfl|rfl|rfl|rfl|rfl|rfl|rfl|rfl|rfl
  ·exact th_str _ hp (by decide)
  ·exact q2 he
  ·exact q2 hf
  ·exact th_int _ (hw.mono (by decide))
  ·exact th_int _ (hd.mono (by decide))
  ·exact q2 hr
  ·exact q2 hk
  ·exact th_int _ (hg.mono (by decide))
  ·exact th_int _ (ha.mono (by decide))
 let E9:En:=[some (.ref d),some (rowA p e f w dd r k g a),some (.ref s.length),some (.int q),some (.ref i9),some (.int e.num),some (.int e.den)]
 show(sSeq _ _ E9 s9).wp _ _
 refine seq_step λ K hK=>?_
 have last:∀ (i:Nat) (u:AV) (st:S),Dr c d (n+10) st->Gk c d s st->lstO st s.length=some R9->Th st u->K E9 (st.set s.length (.lst (R9.set i u))):=by
  intro i u st D' G' f' hu
  obtain⟨k1,k2⟩:=fin_set (i:=i) D D' G' f' th9 rfl hu
  rw[hK]
  have:gOp qTuple (lIts (mv 2)) E9 (st.set s.length (.lst (R9.set i u)))=.ok (.tup (R9.set i u)) (st.set s.length (.lst (R9.set i u))):=by
   unfold gOp lIts
   show(need (lstO (st.set s.length (.lst (R9.set i u))) s.length) _).bind qTuple=_
   rw[k1];rfl
  rw[ret_ok this]
  exact k2
 simp only[E9]
 try walk_at "w"
 have asc:∀ {t:Str},Asc t 9->∀ st,Th st (.str t):=λ h st=>th_str st h (by decide)
 by_cases c0:q=0
 ·rw[if_pos c0]
  refine⟨Nat.le_of_lt (small1000 (by simp)),?_⟩
  let L8:List AV:=[.str "",.str "abcdefghi",.str "A",.str "a1",.non,.int 7,.tup [.str "a"],.str "a b"]
  have th8:∀ x∈L8,Th s9 x:=by
   intro x hx
   simp only[L8,List.mem_cons,List.not_mem_nil,or_false]at hx
   rcases hx with rfl|rfl|rfl|rfl|rfl|rfl|rfl|rfl
   ·exact asc ⟨by decide +kernel,by decide +kernel⟩ _
   ·exact asc ⟨by decide +kernel,by decide +kernel⟩ _
   ·exact asc ⟨by decide +kernel,by decide +kernel⟩ _
   ·exact asc ⟨by decide +kernel,by decide +kernel⟩ _
   ·exact th_non _
   ·exact th_int _ ((fitI (n:=5) (by decide) (by decide)).mono (by decide))
   ·refine th_tup (by simp) λ y hy=>?_
    simp only[List.mem_cons,List.not_mem_nil,or_false]at hy
    subst hy
    exact(asc ⟨by decide +kernel,by decide +kernel⟩ _).in1 (by simp[depA])
   ·exact asc ⟨by decide +kernel,by decide +kernel⟩ _
  obtain⟨D10,G10,T10⟩:=push D9 th8
  refine(take_wp D10 (by omega) (by omega) (fit9 (by omega) (by omega))).mono ?_
  rintro _ s11 ⟨j,rfl,j0,j1,D11,K11⟩
  have hc:=D.ltc
  have hd':=D.ltd
  have gl:=Gs9.len
  obtain⟨u,hu,eu⟩:=ix_at (s:=s11) (i:=s9.length) (xs:=L8) (j:=j) (K11.gk.lst (n:=0) (by omega) (by omega) (lst_last s9 L8)) j0 (by show j < ((8:Nat):Int);omega)
  rw[wpe eu]
  have f11:lstO s11 s.length=some R9:=K11.gk.lst (n:=0) (by omega) (by omega) (lst_old f9)
  exact gsub_wp (j:=0) (m:=0) rfl rfl f11 rfl (last 0 u s11 (D11.mono (by omega)) ((Gs9.trans G10).trans K11.gk) f11 ((T10 u (th8 u hu)).gk D10 D11 K11.gk))
 rw[if_neg c0]
 by_cases c8:q < 8
 ·rw[if_pos c8]
  have hc:=D.ltc
  have hd':=D.ltd
  have gl:=Gs9.len
  have ol:opLen [.ref i9] s9=.ok (.int 17) s9:=by
   show(need (lstO s9 i9) λ xs=>R.ok (AV.int xs.length) s9)=_
   rw[l9,need_some,n17];rfl
  rw[wpe ol]
  refine(take_wp D9 (by omega) (by omega) (fit9 (by omega) (by omega))).mono ?_
  rintro _ s11 ⟨j,rfl,j0,j1,D11,K11⟩
  obtain⟨u,hu,eu⟩:=ix_at (s:=s11) (i:=i9) (xs:=L17) (j:=j) (K11.gk.lst (n:=0) (by omega) (by omega) l9) j0 (by rw[n17];exact j1)
  rw[wpe eu,wp_gSubL]
  try walk_at "w"
  refine(take_wp D11 (by omega) (by omega) (fit9 (by omega) (by omega))).mono ?_
  rintro _ s12 ⟨i,rfl,z0,z1,D12,K12⟩
  have G12:=K11.gk.trans K12.gk
  have f12':lstO s12 s.length=some R9:=G12.lst (n:=0) (by omega) (by omega) f9
  have hix:ixN R9.length (1+i)=some (1+i).toNat:=by
   show ixN 9 (1+i)=_
   unfold ixN
   rw[if_pos (by omega),if_pos (by omega)]
  rw[wpe (show opAdd (.int 1) (.int i) s12=.ok (.int (1+i)) s12 from rfl)]
  dsimp only
  rw[f12']
  try dsimp only
  rw[hix]
  exact last (1+i).toNat u s12 (D12.mono (by omega)) (Gs9.trans G12) f12' ((th17 u hu).gk D9 D12 G12)
 rw[if_neg c8]
 rw[wpe (show(need (items (rowA p e f w dd r k g a) s9) λ xs=>R.ok xs s9)=.ok R9 s9 from rfl)]
 rw[wpe (show qList R9 s9=.ok R9 s9 from rfl)]
 rw[wpe (show opSl (rowA p e f w dd r k g a) none (some 8) (s9++[AO.lst R9])=.ok (.tup (cutA R9 none (some 8))) (s9++[AO.lst R9]) from rfl)]
 rw[wpe (show opAdd (rowA p e f w dd r k g a) (.tup [.int 0]) (s9++[AO.lst R9])=.ok (.tup (R9++[.int 0])) (s9++[AO.lst R9]) from add_tup (xs:=R9) (by simp) (by show(10:Nat)<=1000;decide))]
 rw[wpe (show opIx (rowA p e f w dd r k g a) (.int 0) (s9++[AO.lst R9])=.ok (.str p) (s9++[AO.lst R9]) from rfl)]
 have md:∀ st,mDisp [(mBin opIx (mv 1) (mc (.int 0)),mc (.int 1))] E9 st=.ok (.ref st.length) (st++[.dK [(.inr p,.int 1)]]):=λ st=>rfl
 rw[wpe (md _)]
 refine⟨Nat.le_of_lt (small1000 (by simp)),?_⟩
 obtain⟨D10,G10,T10⟩:=push D9 (xs:=R9) th9
 have l10:=lst_last s9 R9
 generalize hs10:s9++[AO.lst R9]=s10 at *
 have D11:=D10.app (e:=[.dK []]) (D10.cl.add (by simp[AO.low,lowL]))
 have G11:=Gk.app c d s10 [.dK []]
 have k11:(s10++[AO.dK []])[s10.length]? = some (.dK []):=by simp
 have l11:lstO (s10++[AO.dK []]) s9.length=some R9:=lst_old l10
 generalize hs11:s10++[AO.dK []]=s11 at *
 have D12:=D11.app (e:=[.dK [(.inr p,.int 1)]]) (D11.cl.add (by simp[AO.low,lowL,AV.low]))
 have G12:=Gk.app c d s11 [.dK [(.inr p,.int 1)]]
 have k12:(s11++[AO.dK [(.inr p,.int 1)]])[s11.length]? = some (.dK [(.inr p,.int 1)]):=by simp
 have k11:(s11++[AO.dK [(.inr p,.int 1)]])[s10.length]? = some (.dK []):=by rw[List.getElem?_append_left (List.getElem?_eq_some_iff.mp k11).1];exact k11
 have l12:lstO (s11++[AO.dK [(.inr p,.int 1)]]) s9.length=some R9:=lst_old l11
 have Gs12:=((Gs9.trans G10).trans G11).trans G12
 generalize hs12:s11++[AO.dK [(.inr p,.int 1)]]=s12 at *
 have fin:∀ {m:Nat}{st:S}(Dm:Dr c d m st),m<=n+10->Gk c d s12 st->∀ u∈[AV.ref s9.length,AV.tup (cutA R9 none (some 8)),AV.tup (R9++[.int 0]),AV.non,AV.tup [],AV.str p,AV.ref s10.length,AV.ref s11.length],Odd c d (n+10) s u st:=by
  intro m st Dm hm G u hu
  have Dt:=Dm.mono hm
  have Gt:=Gs12.trans G
  have thd:∀ {i:Nat}{q:List (Key × AV)},s12[i]? = some (.dK q)->Th s12 (.ref i):=λ {i q} h=>⟨okD_leaf ⟨⟨"dict",by simp only[tagOf,h]⟩,trivial⟩ (by simp),by simp[depA],by simp only[AV.low,decide_eq_true_eq];exact(List.getElem?_eq_some_iff.mp h).1⟩
  have nt:∀ {v:AV},Th s12 v->(∀ xs,v≠.tup xs)->Odd c d (n+10) s v st:=λ h k=>(h.gk D12 Dm G).odd (λ xs e=>absurd e (k xs)) Dt Gt
  simp only[List.mem_cons,List.not_mem_nil,or_false]at hu
  rcases hu with rfl|rfl|rfl|rfl|rfl|rfl|rfl|rfl
  ·exact nt (th_lst l12) (by simp)
  ·refine rows_odd ?_ (λ x hx=>th9 x ?_) Dt Gt
   ·unfold cutA;simp only[List.length_take,List.length_drop];show min _ (9 - _)<=1000;omega
   ·unfold cutA at hx;exact List.mem_of_mem_drop (List.mem_of_mem_take hx)
  ·refine rows_odd (by show(10:Nat)<=1000;decide) (λ x hx=>?_) Dt Gt
   rcases List.mem_append.mp hx with hx|hx
   ·exact th9 x hx
   ·simp only[List.mem_cons,List.not_mem_nil,or_false]at hx
    subst hx;exact th_int _ f0
  ·exact nt (th_non _) (by simp)
  ·exact rows_odd (by simp) (λ x hx=>nomatch hx) Dt Gt
  ·exact nt (th_str _ hp (by decide)) (by simp)
  ·exact nt (thd k11) (by simp)
  ·exact nt (thd k12) (by simp)
 have D13:=D12.app (e:=[.lst [AV.ref s9.length,AV.tup (cutA R9 none (some 8)),AV.tup (R9++[.int 0]),AV.non,AV.tup [],AV.str p,AV.ref s10.length,AV.ref s11.length]]) (D12.cl.add (by
  simp only[List.all_cons,List.all_nil,Bool.and_true]
  exact lowL_of λ x hx=>AV.low.mono (by simp) (fin D12 (by omega) (Gk.refl c d s12) x hx).lw))
 refine(take_wp D13 (by omega) (by omega) (fit9 (by omega) (by omega))).mono ?_
 rintro _ s14 ⟨j,rfl,j0,j1,D14,K14⟩
 have hc:=D.ltc
 have hd':=D.ltd
 have gl:=Gs12.len
 obtain⟨u,hu,eu⟩:=ix_at (s:=s14) (i:=s12.length) (xs:=[AV.ref s9.length,AV.tup (cutA R9 none (some 8)),AV.tup (R9++[.int 0]),AV.non,AV.tup [],AV.str p,AV.ref s10.length,AV.ref s11.length]) (j:=j) (K14.gk.lst (n:=0) (by omega) (by omega) (lst_last s12 _)) j0 (by show j < ((8:Nat):Int);omega)
 rw[wpe eu]
 exact fin D14 (by omega) ((Gk.app c d s12 _).trans K14.gk) u hu
theorem isFr_fq (q:Rat):isFr (fq q)=true:=by
 show(decide ((1:Int)<=q.den) && decide (ig q.num q.den=1))=true
 rw[decide_eq_true (rat_den q),decide_eq_true ((ig_one (rat_den q)).mpr (rat_cop q))];rfl
theorem rowA_isRw {p:Str}{e f:Rat}{w d:Int}{r k:Rat}{g a:Int}(hp:isNm (.str p)=true) (hw:0<=w)(hd:0<=d)(hg:0<=g)(ha:0<=a):isRw (rowA p e f w d r k g a)=true:=by
 show(isNm (.str p) && (isFr (fq e) && (isFr (fq f) && (isFr (fq r) && (isFr (fq k) && true)))) && (decide (0<=w) && (decide (0<=d) && (decide (0<=g) && (decide (0<=a) && true)))))=true
 simp only[isFr_fq,hp,decide_eq_true hw,decide_eq_true hd,decide_eq_true hg,decide_eq_true ha,Bool.and_true]
theorem rowA_th {p:Str}{e f:Rat}{w d:Int}{r k:Rat}{g a:Int}(hp:Asc p 8)(he:Sz 700 e)(hf:Sz 700 f)(hr:Sz 700 r)(hk:Sz 700 k)(hw:Fit 400 w)(hd:Fit 400 d)(hg:Fit 400 g)(ha:Fit 400 a)(st:S) :
  okD 2 st (rowA p e f w d r k g a)/\depA (rowA p e f w d r k g a)<=4/\(rowA p e f w d r k g a).low st.length=true:=by
 have q2:∀ {y:Rat},Sz 700 y->Th st (fq y):=λ {y} h=>th_tupI (is:=[y.num,(y.den:Int)]) (by simp) (by simpa using⟨h.a.mono (by decide),h.b.mono (by decide)⟩)
 have th:∀ x∈[AV.str p,fq e,fq f,.int w,.int d,fq r,fq k,.int g,.int a],Th st x:=by
  intro x hx
  simp only[List.mem_cons,List.not_mem_nil,or_false]at hx
  rcases hx with rfl|rfl|rfl|rfl|rfl|rfl|rfl|rfl|rfl
  ·exact th_str _ hp (by decide)
  ·exact q2 he
  ·exact q2 hf
  ·exact th_int _ (hw.mono (by decide))
  ·exact th_int _ (hd.mono (by decide))
  ·exact q2 hr
  ·exact q2 hk
  ·exact th_int _ (hg.mono (by decide))
  ·exact th_int _ (ha.mono (by decide))
 refine⟨⟨⟨⟨_,rfl⟩,trivial⟩,λ ys e=>?_⟩,?_,?_⟩
 ·cases e;exact⟨Nat.le_of_lt (small1000 (by simp)),λ x hx=>(th x hx).ok⟩
 ·have:=depAs_le (n:=3) λ x hx=>(th x hx).dp
  show depAs _+1<=4
  omega
 ·show lowL _ _=true
  exact lowL_of λ x hx=>(th x hx).lw
structure Pr (p:Str)(x y:AV):Prop where
 rx:isRw x=true
 ry:isRw y=true
 go:goV x y=true
 nx:nmOf x=p
 ny:nmOf y=p
 ox:∀ st,okD 2 st x/\depA x<=4/\x.low st.length=true
 oy:∀ st,okD 2 st y/\depA y<=4/\y.low st.length=true
theorem Made.pr {p:Str}{x y:AV}(h:Made p x y)(hp:isNm (.str p)=true) (ap:Asc p 8):Pr p x y:=by
 obtain⟨e0,w0,r0,k0,g0,e,f,w,d,r,k,g,rfl,rfl,a1,a2,a3,a4,a5,a6,a7,a8,a9,a10,sz,gv⟩:=h.ex
 have S:∀ {q:Rat},q∈[e0,r0,k0,e,f,r,k]->Sz 700 q:=λ h=>sz _ h
 have s0:Sz 700 (0:Rat):=sz02.mono (by decide)
 have fi:∀ {i:Int},0<=i->i<=9->Fit 400 i:=λ h k=>(fitI (n:=9) h (by omega)).mono (by decide)
 refine⟨rowA_isRw hp a1 (by omega) a3 (by omega),rowA_isRw hp a5 a6 a7 a7,by rw[goV_row];exact gv,rfl,rfl,?_,?_⟩
 ·exact rowA_th ap (S (by simp)) s0 (S (by simp)) (S (by simp)) (fi a1 a2) (fi (by omega) (by omega)) (fi a3 a4) (fi (by omega) (by omega))
 ·exact rowA_th ap (S (by simp)) (S (by simp)) (S (by simp)) (S (by simp)) a9 a10 (fi a7 a8) (fi a7 a8)
theorem er_perm3 {α:Type}:∀ (l:List α) (m:Nat) (h:m < l.length),(l[m] :: l.eraseIdx m).Perm l
 | [],_,h=>absurd h (by simp)
 | _ :: _,0,_=>List.Perm.refl _
 | a :: r,m+1,h=>((List.Perm.swap ..).trans (List.Perm.cons a (er_perm3 r m (by simpa using h))):(r[m]'(by simpa using h) :: a :: r.eraseIdx m).Perm (a :: r))
theorem nm24_nd3:([]++nm24).Nodup:=by decide +kernel
theorem names4 {c d n:Nat}{s:S}(D:Dr c d n s)(hn:n<=900000000){k:Int}(k0:0<=k)(k1:k<=20):(f__law_names [.ref d,.int k] s).wp λ v s'=>∃ (j:Nat) (zs:List Str),v=.ref j/\s.length<=j/\lstO s' j=some (zs.map AV.str)/\(zs.length:Int)=k/\(∀ z∈zs,z∈nm24)/\zs.Nodup/\Dr c d (n+20) s'/\Gk c d s s':=by
 have lc:=D.ltc
 have ld:=D.ltd
 unfold f__law_names b__law_names
 simp only[↓WS,↓WE,↓WV,Lq,len_sz,UU,Nat.reduceSub,↓reduceIte,↓wp_srcR,↓wpe (split24 _),show ∀ s:S,(Mm.isTy "str" (.str "b aa zebra c quartzes ab m knows d mm likes z ba abcdefgh y zz e x f g hh jj kk pave") s).isSome=true from λ _=>rfl]
 refine⟨⟨by omega,by omega⟩,szl (by simp[rngA];omega),?_⟩
 refine comp_wp (λ xs acc env st=>∃ (ys zs:List Str) (x:Option AV),acc=zs.map AV.str/\lstO st s.length=some (ys.map AV.str)/\(xs.length:Int)+zs.length=k/\ys.length+zs.length=24/\(∀ z∈ys,z∈nm24)/\(∀ z∈zs,z∈nm24)/\(zs++ys).Nodup/\env=[x,some (.ref s.length),some (.ref d)]/\Dr c d (n+zs.length) st/\Gk c d s st) ?_ ?_ ?_ _ _ _ _ ⟨nm24,[],none,rfl,lst_new _ _,by simp[rngA];omega,by rw[nm24_len];rfl,λ _ h=>h,(λ _ h=>nomatch h),nm24_nd3,rfl,D.app (D.cl.add (by simp[AO.low,low_strs])),Gk.app c d s _⟩
 ·rintro _ _ _ st _ p hp;cases hp
 ·rintro acc env st ⟨ys,zs,x,rfl,l1,l2,l3,m1,m2,nd,rfl,D1,G1⟩
  refine⟨st.length,zs,rfl,G1.len,lst_new _ _,by simpa using l2,m2,(List.nodup_append.mp nd).1,?_,G1.trans (Gk.app c d st _)⟩
  have l2:((0:Nat):Int)+zs.length=k:=l2
  exact(D1.app (D1.cl.add (by simp[AO.low,low_strs]))).mono (by omega)
 ·rintro v r acc env st ⟨ys,zs,x,rfl,l1,l2,l3,m1,m2,nd,rfl,D1,G1⟩
  have l2:((r.length+1:Nat):Int)+zs.length=k:=l2
  simp only[↓WS,↓WE,↓WV,Lq,len_sz,UU,Nat.reduceSub,↓reduceIte,isL_at l1,↓wpe (len_at l1),List.length_map]
  refine(take_wp D1 (by omega) (by omega) (fit9 (by omega) (by omega))).mono ?_
  rintro _ s1 ⟨j,rfl,j0,j1,D2,K2⟩
  have l4:=K2.gk.lst (n:=0) (by omega) (by omega) l1
  obtain⟨m,rfl⟩:∃ m:Nat,j=m:=⟨j.toNat,by omega⟩
  have hm:m < ys.length:=by omega
  have ep:opPop (.ref s.length) [.int m] s1=.ok (.str ys[m]) (s1.set s.length (.lst ((ys.eraseIdx m).map AV.str))):=by
   show(need (lstO s1 s.length) λ xs=>if 0<=(m:Int)/\(m:Int) < xs.length then need xs[(m:Int).toNat]? λ y=>R.ok y (s1.set s.length (.lst (xs.eraseIdx (m:Int).toNat))) else .bad)=_
   rw[l4,need_some,if_pos ⟨by omega,by rw[List.length_map];omega⟩]
   show(need (ys.map AV.str)[m]? λ y=>R.ok y (s1.set s.length (.lst ((ys.map AV.str).eraseIdx m))))=_
   rw[List.getElem?_map,List.getElem?_eq_getElem hm]
   show R.ok (AV.str ys[m]) _=_
   rw[er_map]
  rw[wpe ep]
  refine⟨ys.eraseIdx m,zs++[ys[m]],_,by simp,lst_set l4,by simp;omega,?_,λ z hz=>m1 z (List.mem_of_mem_eraseIdx hz),λ z hz=>?_,?_,rfl,?_,(G1.trans K2.gk).set (Nat.le_refl _)⟩
  ·rw[List.length_eraseIdx_of_lt hm];simp;omega
  ·rcases List.mem_append.mp hz with hz|hz
   ·exact m2 z hz
   ·rw[List.mem_singleton.mp hz];exact m1 _ (List.getElem_mem hm)
  ·rw[List.append_assoc]
   refine(List.Perm.append_left zs ?_).nodup nd
   exact(er_perm3 ys m hm).symm
  ·exact(D2.mono (by simp;omega)).set (by omega) (by omega) (low_strs _ _)
theorem nm24_nm:∀ z∈nm24,isNm (.str z)=true/\(z.cps.toList.all λ c=>decide (c < 128))=true/\z.length<=8:=by decide +kernel
theorem nm24_asc {z:Str}(h:z∈nm24):Asc z 8:=⟨λ c hc=>of_decide_eq_true (List.all_eq_true.mp (nm24_nm z h).2.1 c hc),(nm24_nm z h).2.2⟩
theorem sort_rises {zs:List Str}(h:zs.Nodup):rises (sortS zs)=true:=by
 have nd:(sortS zs).Nodup:=(sortS_perm zs).nodup_iff.mpr h
 refine pair_rises (((sortS_sorted zs).and nd).imp λ {a b} h=>?_)
 rw[ltS_le]
 cases q:leS b a with
 | false=>rfl
 | true=>exact absurd (leS_anti h.1 q) h.2
theorem okT_lst {st:S}{i:Nat}{xs:List AV}(h:lstO st i=some xs)(hl:xs.length<=60)(hx:∀ x∈xs,okD 2 st x):okT st (.ref i):=by
 refine⟨⟨⟨"list",by simp only[tagOf,lstO_inv h]⟩,trivial⟩,rfl,λ ys e=>?_⟩
 have e:lstO st i=some ys:=e
 rw[h]at e;cases e
 exact⟨hl,hx⟩
theorem okT_tup {st:S}{xs:List AV}(hl:xs.length<=60)(hx:∀ x∈xs,okD 2 st x):okT st (.tup xs):=by
 refine⟨⟨⟨_,rfl⟩,trivial⟩,rfl,λ ys e=>?_⟩
 cases e
 exact⟨hl,hx⟩
theorem okT_not {st:S}{v:AV}(h:leafOk st v)(q:isSq v=false)(n:items v st=none):okT st v:=⟨h,q,λ xs e=>by rw[n]at e;cases e⟩
theorem Dp_lst {st:S}{i:Nat}{xs:List AV}(h:lstO st i=some xs)(hx:∀ x∈xs,depA x<=10):Dp st (.ref i):=by
 refine⟨by simp[depA],λ j ys e k=>?_⟩
 cases e
 rw[h]at k;cases k
 exact depAs_le hx
theorem Dp_tup {st:S}{xs:List AV}(hx:∀ x∈xs,depA x<=9):Dp st (.tup xs):=by
 refine⟨by have:=depAs_le hx;simp only[depA];omega,λ j ys e=>nomatch e⟩
theorem isTab_of {st:S}{v:AV}{xs:List AV}(h:items v st=some xs)(hr:xs.all isRw=true)(hn:rises (xs.map nmOf)=true):isTab st v=true:=by
 unfold isTab;rw[h];dsimp only;rw[hr,hn];rfl
def PrL:List Str->List AV->List AV->Prop
 | [],[],[]=>True
 | p :: ps,x :: xs,y :: ys=>Pr p x y/\PrL ps xs ys
 | _,_,_=>False
theorem PrL.facts:∀ {ps:List Str}{xs ys:List AV},PrL ps xs ys->xs.all isRw=true/\ys.all isRw=true/\xs.map nmOf=ps/\ys.map nmOf=ps/\((xs.zip ys).all λ p=>goV p.1 p.2)=true/\xs.length=ps.length/\ys.length=ps.length/\(∀ x∈xs++ys,∀ st,okD 2 st x/\depA x<=4/\x.low st.length=true)
 | [],[],[],_=>⟨rfl,rfl,rfl,rfl,rfl,rfl,rfl,λ _ h=>nomatch h⟩
 | p :: ps,x :: xs,y :: ys,h=>by
  obtain⟨h1,h2⟩:=h
  obtain⟨a,b,c,d,e,f,g,k⟩:=PrL.facts h2
  refine⟨by simp[h1.rx,a],by simp[h1.ry,b],by simp[h1.nx,c],by simp[h1.ny,d],?_,by simp[f],by simp[g],λ z hz=>?_⟩
  ·rw[List.zip_cons_cons,List.all_cons,h1.go,e];rfl
  ·simp only[List.cons_append,List.mem_cons,List.mem_append]at hz
   rcases hz with rfl|hz|rfl|hz
   ·exact h1.ox
   ·exact k z (List.mem_append_left _ hz)
   ·exact h1.oy
   ·exact k z (List.mem_append_right _ hz)
theorem shown_of {st:S}{v w:AV}{xs ys:List AV}{ps:List Str}(h:PrL ps xs ys)(hn:rises ps=true)(e1:items v st=some xs)(e2:items w st=some ys):shownB st v w=true:=by
 obtain⟨a,b,c,d,e,_⟩:=h.facts
 unfold shownB
 rw[isTab_of e1 a (by rw[c];exact hn),isTab_of e2 b (by rw[d];exact hn),e1,e2]
 rw[decide_eq_true (show(some xs).map (List.map nmOf)=(some ys).map (List.map nmOf) by simp only[Option.map_some,c,d])]
 dsimp only
 rw[e];rfl
def OddR (x:AV):Prop:=∀ (c d n:Nat) (s:S),Dr c d n s->n<=900000000->(f__law_odd [.ref d,x] s).wp λ v s'=>Odd c d (n+10) s v s'
theorem Made.odd {p:Str}{x y:AV}(h:Made p x y)(ap:Asc p 8):OddR x/\OddR y:=by
 obtain⟨e0,w0,r0,k0,g0,e,f,w,d,r,k,g,rfl,rfl,a1,a2,a3,a4,a5,a6,a7,a8,a9,a10,sz,gv⟩:=h.ex
 have S:∀ {q:Rat},q∈[e0,r0,k0,e,f,r,k]->Sz 700 q:=λ h=>sz _ h
 have s0:Sz 700 (0:Rat):=sz02.mono (by decide)
 have fi:∀ {i:Int},0<=i->i<=9->Fit 400 i:=λ h k=>(fitI (n:=9) h (by omega)).mono (by decide)
 refine⟨λ _ _ _ _ D hn=>odd_wp D hn ap (S (by simp)) s0 (S (by simp)) (S (by simp)) (fi a1 a2) (fi (by omega) (by omega)) (fi a3 a4) (fi (by omega) (by omega)),λ _ _ _ _ D hn=>odd_wp D hn ap (S (by simp)) (S (by simp)) (S (by simp)) (S (by simp)) a9 a10 (fi a7 a8) (fi a7 a8)⟩
def prT:List AV->List AV->List AV
 | x :: xs,y :: ys=>.tup [x,y] :: prT xs ys
 | _,_=>[]
theorem prT_app:∀ {xs ys:List AV}(x y:AV),xs.length=ys.length->prT (xs++[x]) (ys++[y])=prT xs ys++[.tup [x,y]]
 | [],[],_,_,_=>rfl
 | [],_ :: _,_,_,h=>by simp at h
 | _ :: _,[],_,_,h=>by simp at h
 | a :: r,b :: q,x,y,h=>by
  show AV.tup [a,b] :: prT (r++[x]) (q++[y])=_
  rw[prT_app x y (by simpa using h)];rfl
theorem PrL.app:∀ {ps:List Str}{xs ys:List AV}{p:Str}{x y:AV},PrL ps xs ys->Pr p x y->PrL (ps++[p]) (xs++[x]) (ys++[y])
 | [],[],[],_,_,_,_,h=>⟨h,trivial⟩
 | _ :: _,_ :: _,_ :: _,_,_,_,h,k=>⟨h.1,h.2.app k⟩
def pF:AV->AV
 | .tup [x,_]=>x
 | w=>w
def pS:AV->AV
 | .tup [_,x]=>x
 | w=>w
theorem prT_fst:∀ {xs ys:List AV},xs.length=ys.length->(prT xs ys).map pF=xs
 | [],[],_=>rfl
 | [],_ :: _,h=>by simp at h
 | _ :: _,[],h=>by simp at h
 | a :: r,b :: q,h=>by
  show a :: List.map _ (prT r q)=_
  rw[prT_fst (by simpa using h)]
theorem prT_snd:∀ {xs ys:List AV},xs.length=ys.length->(prT xs ys).map pS=ys
 | [],[],_=>rfl
 | [],_ :: _,h=>by simp at h
 | _ :: _,[],h=>by simp at h
 | a :: r,b :: q,h=>by
  show b :: List.map _ (prT r q)=_
  rw[prT_snd (by simpa using h)]
theorem prT_mem:∀ {xs ys:List AV}{v:AV},v∈prT xs ys->∃ x∈xs,∃ y∈ys,v=.tup [x,y]
 | [],_,_,h=>nomatch h
 | _ :: _,[],_,h=>nomatch h
 | a :: r,b :: q,v,h=>by
  rcases List.mem_cons.mp (show v∈AV.tup [a,b] :: prT r q from h) with rfl|h
  ·exact⟨a,.head _,b,.head _,rfl⟩
  ·obtain⟨x,hx,y,hy,e⟩:=prT_mem h
   exact⟨x,.tail _ hx,y,.tail _ hy,e⟩
theorem wp_sortN (m:Evs)(env:En)(s:S)(Q:List AV->S->Prop):(gSortN m env s).wp Q=(m env s).wp λ l s1=>(need (txts l) λ ss=>if ss.length < 64 then R.ok ((sortS ss).map .str) s1 else .bad).wp Q:=wp_bind _ _ _
structure St38 (c d n i7 i8:Nat)(xs ys:List AV)(s:S):Prop where
 dr:Dr c d n s
 l7:lstO s i7=some xs
 l8:lstO s i8=some ys
 ne:i7≠c/\i7≠d/\i8≠c/\i8≠d
theorem St38.gk {c d n m i7 i8:Nat}{xs ys:List AV}{s s':S}(h:St38 c d n i7 i8 xs ys s)(G:Gk c d s s')(D:Dr c d m s'):St38 c d m i7 i8 xs ys s':=
 ⟨D,G.lst (n:=0) h.ne.1 h.ne.2.1 h.l7,G.lst (n:=0) h.ne.2.2.1 h.ne.2.2.2 h.l8,h.ne⟩
structure Tb (ps:List Str)(xs ys:List AV):Prop where
 pr:PrL ps xs ys
 up:rises ps=true
 l0:0 < ps.length
 l4:ps.length<=4
 nm:∀ p∈ps,isNm (.str p)=true
 od:∀ x∈xs++ys,OddR x
theorem skip_wp {c:Eb}{a:Ms}{env:En}{s:S}{N:En->S->Prop}{T:AV->S->Prop}(h:c env s=.ok false s)(k:N env s):(sIf c a sSkip env s).wp N T:=by
 unfold sIf;rw[h];exact k
theorem sort_mem {zs:List Str}{z:Str}(h:z∈sortS zs):z∈zs:=(sortS_perm zs).mem_iff.mp h
theorem made_all {c d n i2:Nat}{s:S}{ps:List Str}{env:En}(D:Dr c d n s)(hn:n<=1000)(l2:lstO s i2=some (ps.map AV.str)) (hp:∀ p∈ps,p∈nm24)(h4:ps.length<=4)(c2:i2≠c)(d2:i2≠d)
  (hr:srcE [("_law_name",none),("_law_state",some 1)] env=[none,some (.ref d)]) (h2:mv 2 env s=.ok (.ref i2) s) :
  (lComp [("_law_name",none),("_law_state",some 1)] (srcV' (mv 2)) (gN 0) cYes (mCall 2 f__law_made (pCons (mv 1) (pCons (mv 0) pNil))) env s).wp λ vs s'=>∃ xs ys,vs=prT xs ys/\PrL ps xs ys/\(∀ x∈xs++ys,OddR x)/\Dr c d (n+160) s'/\Kp c d s s':=by
 rw[WE.2.2.2.2.2.2.2.2.2.2.2.2.2.2.2.2.2.2.2.2.2.1,hr]
 obtain⟨gs,e1,hg⟩:=src_ok (m:=mv 2) (env:=env) (show items (.ref i2) s=some (ps.map AV.str) from l2) h2
 have e1':srcV' (mv 2) env s=.ok (ps.map AV.str,[(i2,ps.map AV.str)]) s:=by
  unfold srcV'
  rw[h2,bind_ok']
  show need (lstO s i2) _=_
  rw[l2];rfl
 rw[wpe e1']
 refine⟨szl (by show(ps.map AV.str).length<=1000;rw[List.length_map];omega),?_⟩
 refine comp_wp (λ zs acc env st=>∃ (qs rs:List Str) (xs ys:List AV) (x:Option AV),qs++rs=ps/\zs=rs.map AV.str/\acc=prT xs ys/\PrL qs xs ys/\(∀ x∈xs++ys,OddR x)/\env=[x,some (.ref d)]/\Dr c d (n+40 * qs.length) st/\Kp c d s st) ?_ ?_ ?_ _ _ _ _ ⟨[],ps,[],[],none,rfl,rfl,rfl,trivial,(λ _ h=>nomatch h),rfl,D,Kp.refl c d s⟩
 ·rintro _ _ _ st ⟨_,_,_,_,_,_,_,_,_,_,_,_,K⟩
  exact(Mm.gOk_one i2 _ st).mpr (K.gk.lst (n:=0) c2 d2 l2)
 ·rintro acc env st ⟨qs,rs,xs,ys,x,e,h,rfl,pr,od,rfl,D1,K1⟩
  have:rs=[]:=by cases rs with|nil=>rfl|cons=>cases h
  subst this
  rw[List.append_nil]at e
  subst e
  exact⟨xs,ys,rfl,pr,od,D1.mono (by omega),K1⟩
 ·rintro v r acc env st ⟨qs,rs,xs,ys,x,e,h,rfl,pr,od,rfl,D1,K1⟩
  obtain⟨p,rs,rfl,rfl,rfl⟩:∃ p r',rs=p :: r'/\v=.str p/\r=r'.map AV.str:=by
   cases rs with
   | nil=>cases h
   | cons p r'=>cases h;exact⟨p,r',rfl,rfl,rfl⟩
  have hl:qs.length<=4:=by have:=congrArg List.length e;simp at this;omega
  have hpm:=hp p (by rw[<-e];simp)
  walk_at "w"
  refine(made_wp D1 (by omega) (p:=p)).mono ?_
  rintro _ s2 ⟨a,b,rfl,m,D2,K2⟩
  have f:=PrL.facts pr
  refine⟨qs++[p],rs,xs++[a],ys++[b],_,by rw[<-e];simp,rfl,(prT_app a b (by rw[f.2.2.2.2.2.1,f.2.2.2.2.2.2.1])).symm,pr.app (m.pr (nm24_nm p hpm).1 (nm24_asc hpm)),λ z hz=>?_,rfl,D2.mono (by simp;omega),K1.trans K2⟩
  have mo:=m.odd (nm24_asc hpm)
  simp only[List.append_assoc,List.mem_append,List.mem_cons,List.not_mem_nil,or_false]at hz
  rcases hz with hz|rfl|hz|rfl
  ·exact od z (List.mem_append_left _ hz)
  ·exact mo.1
  ·exact od z (List.mem_append_right _ hz)
  ·exact mo.2
theorem Pair_ref (s:S)(v:AV)(i:Nat):Pair s v (.ref i):=λ _ _ _ _ _ h=>by cases h.2
theorem taken_c {s s2:S}{v w:AV}{A:Ev}{B:Ev}{env:En}{s1:S}(e1:A env s=.ok v s1)(e2:B env s1=.ok w s2)(z:S)(hz:s2=s++z)(hv:okT s2 v)(hw:okT s2 w)(hp:Pair s2 v w)(dv:Dp s2 v)(dw:Dp s2 w) :
  cNot (cT (gcE (mCall 2 f__law_taken_right (pCons A (pCons B pNil))))) env s=.ok false s:=by
 obtain⟨z2,k⟩:=taken_ok hv hw hp dv dw
 refine not_ok (x:=true) (t_ok ?_)
 have:mCall 2 f__law_taken_right (pCons A (pCons B pNil)) env s=.ok (.bl true) (s++(z++z2)):=by
  unfold mCall pCons pNil
  rw[e1,bind_ok',e2]
  show f__law_taken_right [v,w] s2=_
  rw[k,hz,List.append_assoc]
 exact gc_ok this rfl
theorem tb_ok {ps:List Str}{xs ys:List AV}(T:Tb ps xs ys)(st:S):(∀ x∈xs,okD 2 st x/\depA x<=4/\x.low st.length=true)/\(∀ x∈ys,okD 2 st x/\depA x<=4/\x.low st.length=true)/\xs.length=ps.length/\ys.length=ps.length:=by
 obtain⟨_,_,_,_,_,f,g,k⟩:=T.pr.facts
 exact⟨λ x hx=>k x (List.mem_append_left _ hx) st,λ x hx=>k x (List.mem_append_right _ hx) st,f,g⟩
noncomputable abbrev lp10:Ms:=(sSeq (sPar 12 13 (pCons (mNew (gOp qList (lIts (mv 7)))) (pCons (mNew (gOp qList (lIts (mv 8)))) pNil)))
 (sSeq (sSet 9 (gcM (mBin opIx (mNew (lLst (pCons (mv 12) (pCons (mv 13) pNil)))) (mCall 2 f__law_take (pCons (mv 1) (pCons (mc (.int 2)) pNil))))))
 (sSeq (sSet 10 (mCall 2 f__law_take (pCons (mv 1) (pCons (mOp opLen (pCons (mv 9) pNil)) pNil))))
 (sSeq (sAsg (mCall 2 f__law_odd (pCons (mv 1) (pCons (mBin opIx (mv 9) (mv 10)) pNil))) (gSubL (mv 9) (mv 10)))
 (sIf (cNot (cT (gcE (mCall 2 f__law_taken_right (pCons (mv 12) (pCons (mv 13) pNil)))))) (sRet (mc (.bl false))) sSkip)))))
abbrev en38 (x0:AV)(d:Nat)(x2 x3:AV)(i7 i8:Nat)(x4 x5 x6 x9 x10 x11 x12 x13:Option AV):En:=[some x0,some (.ref d),some x2,some x3,x4,x5,x6,some (.ref i7),some (.ref i8),x9,x10,x11,x12,x13]
theorem copy_of {i:Nat}{xs:List AV}{m:Ev}{env:En}{s:S}(h:lstO s i=some xs)(e:m env s=.ok (.ref i) s):mNew (gOp qList (lIts m)) env s=.ok (.ref s.length) (s++[.lst xs]):=by
 refine new_ok ?_
 unfold gOp lIts
 rw[e,bind_ok']
 show(need (lstO s i) λ xs=>R.ok xs s).bind qList=_
 rw[h];rfl
theorem turn10 {c d n i7 i8:Nat}{s:S}{ps:List Str}{xs ys:List AV}(T:Tb ps xs ys)(st:St38 c d n i7 i8 xs ys s)(hn:n<=100000)(x0 x2 x3:AV)(x4 x5 x6 x9 x10 x11 x12 x13:Option AV)(Tr:AV->S->Prop) :
  (lp10 (en38 x0 d x2 x3 i7 i8 x4 x5 x6 x9 x10 x11 x12 x13) s).wp (λ env s'=>∃ y9 y10 y12 y13,env=en38 x0 d x2 x3 i7 i8 x4 x5 x6 y9 y10 x11 y12 y13/\St38 c d (n+60) i7 i8 xs ys s') Tr:=by
 have lc:=st.dr.ltc
 have ld:=st.dr.ltd
 refine seq_step λ K hK=>?_
 rw[WS.2.2.2.2.2.2.1,wpe (copy_of st.l7 rfl),wpe (copy_of (lst_old st.l8) rfl)]
 rw[hK]
 clear hK K
 obtain⟨ox,oy,lx,ly⟩:=tb_ok T s
 have hx4:xs.length<=4:=by have:=T.l4;omega
 have hy4:ys.length<=4:=by have:=T.l4;omega
 have lowx:∀ b,lowL b xs=true:=λ b=>lowL_of λ x hx=>by
  have:=((tb_ok T (List.replicate b (AO.lst []))).1 x hx).2.2
  rwa [List.length_replicate]at this
 have lowy:∀ b,lowL b ys=true:=λ b=>lowL_of λ x hx=>by
  have:=((tb_ok T (List.replicate b (AO.lst []))).2.1 x hx).2.2
  rwa [List.length_replicate]at this
 have D1:=st.dr.app (e:=[.lst xs]) (st.dr.cl.add (by simp only[List.all_cons,List.all_nil,Bool.and_true];exact lowx _))
 have D2:=D1.app (e:=[.lst ys]) (D1.cl.add (by simp only[List.all_cons,List.all_nil,Bool.and_true];exact lowy _))
 have G2:Gk c d s (s++[.lst xs]++[.lst ys]):=(Gk.app c d s _).trans (Gk.app c d _ _)
 have f1:lstO (s++[.lst xs]++[.lst ys]) s.length=some xs:=lst_old (lst_last s xs)
 have f2:lstO (s++[.lst xs]++[.lst ys]) (s++[AO.lst xs]).length=some ys:=lst_last _ ys
 have ef:(s++[AO.lst xs]).length=s.length+1:=by simp
 generalize (s++[AO.lst xs]).length=f at f2 ef ⊢
 generalize s++[.lst xs]++[.lst ys]=s2 at D2 G2 f1 f2 ⊢
 clear D1
 show(sSeq _ _ (en38 x0 d x2 x3 i7 i8 x4 x5 x6 x9 x10 x11 (some (.ref s.length)) (some (.ref f))) s2).wp _ _
 refine seq_step λ K hK=>?_
 have lt2:f < s2.length:=(List.getElem?_eq_some_iff.mp (lstO_inv f2)).1
 try walk_at "w"
 have D3:=D2.app (e:=[.lst [.ref s.length,.ref f]]) (D2.cl.add (by simp[AO.low,lowL,AV.low];omega))
 refine(take_wp D3 (by omega) (by omega) (fit9 (by omega) (by omega))).mono ?_
 rintro _ s4 ⟨j,rfl,j0,j1,D4,K4⟩
 obtain⟨v,hv,ev⟩:=ix_at (s:=s4) (i:=s2.length) (j:=j) (K4.gk.lst (n:=0) (by have:=D2.ltc;omega) (by have:=D2.ltd;omega) (lst_last s2 _)) j0 j1
 obtain⟨D5,K5,al5⟩:=((Gk.app c d s2 _).trans K4.gk).cut D2 D4
 obtain⟨w,zs,rfl,hw0,hw1,fw,zo⟩:∃ w zs,v=.ref w/\s.length<=w/\w < s2.length/\lstO s2 w=some zs/\((w=s.length/\zs=xs)∨(w=f/\zs=ys)):=by
  simp only[List.mem_cons,List.not_mem_nil,or_false]at hv
  rcases hv with rfl|rfl
  ·exact⟨_,xs,rfl,Nat.le_refl _,by omega,f1,.inl ⟨rfl,rfl⟩⟩
  ·exact⟨_,ys,rfl,by omega,by omega,f2,.inr ⟨rfl,rfl⟩⟩
 rw[wpe ev]
 refine⟨⟨al5,by simp[AV.low];exact hw1⟩,?_⟩
 rw[hK]
 clear hK K al5 ev K4 D4 D3 hv
 have G5:=G2.trans K5.gk
 have f1:=K5.gk.lst (n:=0) (by omega) (by omega) f1
 have f2:=K5.gk.lst (n:=0) (by omega) (by omega) f2
 have fw:=K5.gk.lst (n:=0) (by omega) (by omega) fw
 have hl5:=K5.len
 revert D5 G5 f1 f2 fw hl5
 generalize s4.take s2.length=s5
 intro D5 G5 f1 f2 fw hl5
 clear K5
 have zl:zs.length=ps.length:=by rcases zo with⟨_,rfl⟩|⟨_,rfl⟩<;>assumption
 have zd:∀ x∈zs,OddR x:=λ x hx=>by
  rcases zo with⟨_,rfl⟩|⟨_,rfl⟩
  ·exact T.od x (List.mem_append_left _ hx)
  ·exact T.od x (List.mem_append_right _ hx)
 have l0:=T.l0
 have l4:=T.l4
 show(sSeq _ _ (en38 x0 d x2 x3 i7 i8 x4 x5 x6 (some (.ref w)) x10 x11 (some (.ref s.length)) (some (.ref f))) s5).wp _ _
 refine seq_step λ K hK=>?_
 try simp only[↓WS,↓WE,↓WV,Lq,len_sz,UU,Nat.reduceSub,↓reduceIte,↓wpe (len_at fw)]
 refine(take_wp D5 (by omega) (by omega) (fit9 (by omega) (by omega))).mono ?_
 rintro _ s6 ⟨j2,rfl,k0,k1,D6,K6⟩
 rw[hK]
 clear hK K
 have G6:=G5.trans K6.gk
 have f1:=K6.gk.lst (n:=0) (by omega) (by omega) f1
 have f2:=K6.gk.lst (n:=0) (by omega) (by omega) f2
 have fw:=K6.gk.lst (n:=0) (by omega) (by omega) fw
 have hl6:=K6.len
 clear K6
 show(sSeq _ _ (en38 x0 d x2 x3 i7 i8 x4 x5 x6 (some (.ref w)) (some (.int j2)) x11 (some (.ref s.length)) (some (.ref f))) s6).wp _ _
 refine seq_step λ K hK=>?_
 obtain⟨x,hx,ex⟩:=ix_at (j:=j2) fw k0 k1
 try simp only[↓WS,↓WE,↓WV,Lq,len_sz,UU,Nat.reduceSub,↓reduceIte,↓wpe ex]
 refine(zd x hx c d _ s6 D6 (by omega)).mono ?_
 rintro u s7 od
 have f1:=od.gk.lst (n:=0) (by omega) (by omega) f1
 have f2:=od.gk.lst (n:=0) (by omega) (by omega) f2
 have fw:=od.gk.lst (n:=0) (by omega) (by omega) fw
 obtain⟨m2,rfl⟩:∃ m:Nat,j2=m:=⟨j2.toNat,by omega⟩
 have hl7:=od.gk.len
 refine gsub_wp (f:=w) (j:=m2) (m:=m2) rfl rfl fw (by unfold ixN;rw[if_pos (by omega),if_pos (by omega)];rfl) ?_
 rw[hK]
 clear hK K
 have G7:=G6.trans od.gk
 have D7:=od.dr
 have hu:=od.ok
 have ud:=od.dp
 have ul:=od.lw
 have lowz:∀ b,lowL b zs=true:=λ b=>by rcases zo with⟨_,rfl⟩|⟨_,rfl⟩<;>first|exact lowx b|exact lowy b
 have low8:lowL s7.length (zs.set m2 u)=true:=lowL_of λ y hy=>(List.mem_or_eq_of_mem_set hy).elim (λ h=>low_mem' (lowz _) h) (λ e=>e ▸ ul)
 have D8:Dr c d (n+1+1+10) (s7.set w (.lst (zs.set m2 u))):=D7.set (by omega) (by omega) low8
 have G8:Gk c d s (s7.set w (.lst (zs.set m2 u))):=G7.set hw0
 have ok8:∀ (i:Nat) (ts:List AV),lstO s7 i=some ts->ts.length<=4->(∀ x∈ts,okD 2 s7 x/\depA x<=5)->∃ rs,lstO (s7.set w (.lst (zs.set m2 u))) i=some rs/\rs.length<=60/\∀ x∈rs,okD 2 (s7.set w (.lst (zs.set m2 u))) x/\depA x<=10:=by
  intro i ts hi hl ht
  by_cases e:i=w
  ·subst e
   rw[hi]at fw;cases fw
   refine⟨_,lst_set hi,by rw[List.length_set];omega,λ x hx=>?_⟩
   rcases List.mem_or_eq_of_mem_set hx with h|rfl
   ·exact⟨okD_set hi (ht x h).1,by have:=(ht x h).2;omega⟩
   ·exact⟨okD_set hi hu,by omega⟩
  ·refine⟨ts,lstO_of (by rw[List.getElem?_set_ne (λ q=>e q.symm)];exact lstO_inv hi),by omega,λ x hx=>⟨okD_set fw (ht x hx).1,by have:=(ht x hx).2;omega⟩⟩
 obtain⟨ox7,oy7,_,_⟩:=tb_ok T s7
 obtain⟨r1,a1,a2,a3⟩:=ok8 s.length xs f1 hx4 λ x hx=>⟨(ox7 x hx).1,by have:=(ox7 x hx).2.1;omega⟩
 obtain⟨r2,b1,b2,b3⟩:=ok8 f ys f2 hy4 λ x hx=>⟨(oy7 x hx).1,by have:=(oy7 x hx).2.1;omega⟩
 generalize s7.set w (.lst (zs.set m2 u))=s8 at D8 G8 a1 a3 b1 b3 ⊢
 refine skip_wp (taken_c (z:=[]) (v:=.ref s.length) (w:=.ref f) rfl rfl (by rw[List.append_nil]) (okT_lst a1 a2 λ x hx=>(a3 x hx).1) (okT_lst b1 b2 λ x hx=>(b3 x hx).1) (Pair_ref _ _ _) (Dp_lst a1 λ x hx=>(a3 x hx).2) (Dp_lst b1 λ x hx=>(b3 x hx).2)) ?_
 exact⟨_,_,_,_,rfl,st.gk G8 (D8.mono (by omega))⟩
noncomputable abbrev lp6:Ms:=(sSeq (sSet 11 (mCall 1 f__law_any_name (pCons (mv 1) pNil)))
 (sIf (cNot (cT (gcE (mCall 2 f__law_taken_right (pCons (mNew (lLst (pCons (mBin opAdd (mTup (pCons (mv 11) pNil)) (mSl (mBin opIx (mv 7) (mc (.int 0))) (oS (mc (.int 1))) oN)) pNil))) (pCons (mNew (lLst (pCons (mBin opAdd (mTup (pCons (mv 11) pNil)) (mSl (mBin opIx (mv 8) (mc (.int 0))) (oS (mc (.int 1))) oN)) pNil))) pNil)))))) (sRet (mc (.bl false))) sSkip))
theorem renamed {o:Ev}{i:Nat}{x:AV}{zs:List AV}{t:Str}{m:Ev}{env:En}{s:S}(e:o env s=.ok (.ref i) s) (h:lstO s i=some (x :: zs)) (em:m env s=.ok (.str t) s) (at_:Asc t 20)(hr:isRw x=true)(hx:okD 2 s x/\depA x<=4/\x.low s.length=true) :
  ∃ y,mNew (lLst (pCons (mBin opAdd (mTup (pCons m pNil)) (mSl (mBin opIx o (mc (.int 0))) (oS (mc (.int 1))) oN)) pNil)) env s=.ok (.ref s.length) (s++[.lst [y]])/\okD 2 s y/\depA y<=10:=by
 obtain⟨p,e1,f1,w1,d1,r1,k1,g1,a1,rfl,_⟩:=isRw_inv hr
 let R8:List AV:=[fq e1,fq f1,.int w1,.int d1,fq r1,fq k1,.int g1,.int a1]
 have ix:opIx (.ref i) (.int 0) s=.ok (rowA p e1 f1 w1 d1 r1 k1 g1 a1) s:=by
  show(need (lstO s i) λ xs=>need (atI xs 0) λ v=>R.ok v s)=_
  rw[h,need_some,show atI (rowA p e1 f1 w1 d1 r1 k1 g1 a1 :: zs) 0=some (rowA p e1 f1 w1 d1 r1 k1 g1 a1) from atI_nat (j:=0) rfl];rfl
 have sl:mSl (mBin opIx o (mc (.int 0))) (oS (mc (.int 1))) oN env s=.ok (.tup R8) s:=by
  unfold mSl
  rw[bin_ok e rfl ix,bind_ok']
  show R.ok (AV.tup (cutA (AV.str p :: R8) (some 1) none)) s=_
  rw[cut1']
 have tp:mTup (pCons m pNil) env s=.ok (.tup [.str t]) s:=tup_ok (cons_ok em rfl) (by simp)
 have ad:mBin opAdd (mTup (pCons m pNil)) (mSl (mBin opIx o (mc (.int 0))) (oS (mc (.int 1))) oN) env s=.ok (.tup (.str t :: R8)) s:=bin_ok tp sl (add_tup (xs:=[.str t]) (ys:=R8) (by simp[R8]) (by show(1+8:Nat)<=1000;decide))
 obtain⟨⟨ho,hs⟩,hd,_⟩:=hx
 obtain⟨_,hs⟩:=hs _ rfl
 refine⟨.tup (.str t :: R8),new_ok (lLst_ok (cons_ok ad rfl) (by simp)),⟨⟨⟨_,rfl⟩,trivial⟩,λ ys e=>?_⟩,?_⟩
 ·cases e
  refine⟨szl (by show(9:Nat)<=1000;decide),λ y hy=>?_⟩
  rcases List.mem_cons.mp hy with rfl|hy
  ·exact(th_str s at_ (by decide)).ok
  ·exact hs y (List.mem_cons_of_mem _ hy)
 ·have hd:depAs (AV.str p :: R8)+1<=4:=hd
  show depAs (AV.str t :: R8)+1<=10
  simp only[depAs,depA]at hd ⊢
  omega
theorem turn6 {c d n i7 i8:Nat}{s:S}{ps:List Str}{xs ys:List AV}(T:Tb ps xs ys)(st:St38 c d n i7 i8 xs ys s)(hn:n<=100000)(x0 x2 x3:AV)(x4 x5 x6 x9 x10 x11 x12 x13:Option AV)(Tr:AV->S->Prop) :
  (lp6 (en38 x0 d x2 x3 i7 i8 x4 x5 x6 x9 x10 x11 x12 x13) s).wp (λ env s'=>∃ y11,env=en38 x0 d x2 x3 i7 i8 x4 x5 x6 x9 x10 y11 x12 x13/\St38 c d (n+60) i7 i8 xs ys s') Tr:=by
 refine seq_step λ K hK=>?_
 try walk_at "w"
 refine(any_name_wp st.dr (by omega)).mono ?_
 rintro _ s1 ⟨t,rfl,at_,D1,K1⟩
 rw[hK]
 clear hK K
 have st1:=st.gk K1.gk D1
 have l0:=T.l0
 obtain⟨_,_,lx,ly⟩:=tb_ok T s1
 obtain⟨ha,hb,_⟩:=T.pr.facts
 cases xs with
 | nil=>simp at lx;omega
 | cons x xs=>
 cases ys with
 | nil=>simp at ly;omega
 | cons y ys=>
 have hx:=(tb_ok T s1).1 x (.head _)
 have hy:=(tb_ok T s1).2.1 y (.head _)
 have rx:isRw x=true:=List.all_eq_true.mp ha x (.head _)
 have ry:isRw y=true:=List.all_eq_true.mp hb y (.head _)
 obtain⟨u,e1,ou,du⟩:=renamed (o:=mv 7) (m:=mv 11) (env:=en38 x0 d x2 x3 i7 i8 x4 x5 x6 x9 x10 (some (.str t)) x12 x13) rfl st1.l7 rfl at_ rx hx
 obtain⟨v,e2,ov,dv⟩:=renamed (o:=mv 8) (m:=mv 11) (env:=en38 x0 d x2 x3 i7 i8 x4 x5 x6 x9 x10 (some (.str t)) x12 x13) (s:=s1++[.lst [u]]) rfl (lst_old st1.l8) rfl at_ ry ((tb_ok T _).2.1 y (.head _))
 have g1:lstO (s1++[.lst [u]]++[.lst [v]]) s1.length=some [u]:=lst_old (lst_last s1 [u])
 have g2:lstO (s1++[.lst [u]]++[.lst [v]]) (s1++[AO.lst [u]]).length=some [v]:=lst_last _ [v]
 refine skip_wp (taken_c (z:=[.lst [u]]++[.lst [v]]) e1 e2 (by rw[List.append_assoc]) (okT_lst g1 (by simp) λ x hx=>?_) (okT_lst g2 (by simp) λ x hx=>?_) (Pair_ref _ _ _) (Dp_lst g1 λ x hx=>?_) (Dp_lst g2 λ x hx=>?_)) ?_
 ·rw[List.mem_singleton.mp hx];exact okD_app (okD_app ou)
 ·rw[List.mem_singleton.mp hx];exact okD_app ov
 ·rw[List.mem_singleton.mp hx];exact du
 ·rw[List.mem_singleton.mp hx];exact dv
 ·exact⟨_,rfl,st1.gk (Gk.refl c d s1) (D1.mono (by omega))⟩
noncomputable abbrev odd14:Ev:=(mNew (lLst (pCons (mc .non) (pCons (mc (.bl true)) (pCons (mc (.int 0)) (pCons (mc (.str "")) (pCons (mc (.str "a")) (pCons mD0 (pCons (mTup pNil) (pCons (mNew (lLst pNil)) (pCons (mNew (lLst (pCons (mc .non) pNil))) (pCons (mNew (lLst (pCons (mTup pNil) pNil))) (pCons (mNew (lLst (pCons (mNew (lLst pNil)) pNil))) (pCons (mTup (pCons (mTup pNil) pNil)) (pCons (mBin opIx (mv 7) (mc (.int 0))) (pCons (mDisp [((mc (.str "a")),(mv 7))]) pNil))))))))))))))))
structure Th14 (i7:Nat)(s:S)(v:AV):Prop where
 ok:okT s v
 dp:Dp s v
 pr:Pair s (.ref i7) v
theorem th14_not {i7:Nat}{s:S}{v:AV}(h:leafOk s v)(q:isSq v=false)(n:items v s=none)(k:depA v<=10):Th14 i7 s v:=
 ⟨okT_not h q n,⟨k,λ i xs e l=>by subst e;rw[show items (.ref i) s=lstO s i from rfl,l]at n;cases n⟩,λ xs ys _ e=>by rw[n]at e;cases e⟩
theorem th14_lst {i7 i:Nat}{s:S}{xs:List AV}(h:lstO s i=some xs)(hl:xs.length<=60)(hx:∀ x∈xs,okD 2 s x/\depA x<=10):Th14 i7 s (.ref i):=
 ⟨okT_lst h hl λ x hx'=>(hx x hx').1,Dp_lst h λ x hx'=>(hx x hx').2,Pair_ref _ _ _⟩
theorem th14_tup {i7:Nat}{s:S}{zs xs:List AV}{ps:List Str}(h7:lstO s i7=some zs)(hz:zs.map nmOf=ps)(hl:xs.length<=60)(hx:∀ x∈xs,okD 2 s x/\depA x<=9)(hn:ps≠xs.map nmOf):Th14 i7 s (.tup xs):=by
 refine⟨okT_tup hl λ x hx'=>(hx x hx').1,Dp_tup λ x hx'=>(hx x hx').2,λ us vs h1 h2 e=>?_⟩
 have h1:lstO s i7=some us:=h1
 rw[h7]at h1;cases h1
 cases h2
 exact absurd (hz.symm.trans e) hn
theorem shows_c {s s1 s2:S}{v w:AV}{A B:Ev}{env:En}(e1:A env s=.ok v s1)(e2:B env s1=.ok w s2)(z:S)(hz:s2=s++z)(hv:okT s2 v)(hw:okT s2 w)(hp:Pair s2 v w)(h:shownB s2 v w=true) :
  gcE (mCall 2 f_shows_statements (pCons A (pCons B pNil))) env s=.ok (.bl true) s:=by
 have:mCall 2 f_shows_statements (pCons A (pCons B pNil)) env s=.ok (.bl true) (s++z):=by
  unfold mCall pCons pNil
  rw[e1,bind_ok',e2]
  show f_shows_statements [v,w] s2=_
  rw[shows_eq hv hw hp,h,hz]
 exact gc_ok this rfl
theorem Th14.app {i7:Nat}{s z:S}{v:AV}{zs:List AV}(h7:lstO s i7=some zs)(h:Th14 i7 s v):Th14 i7 (s++z) v:=
 ⟨okT_app h.ok,Dp_app h.ok.leaf h.dp,Pair_app (th_lst h7).ok.leaf h.ok.leaf h.pr⟩
theorem okD2 {s:S}{v:AV}(h:okD 1 s v)(k:∀ xs,v=.tup xs->∀ x∈xs,∀ ys,x≠.tup ys):okD 2 s v:=
 ⟨h.1,λ xs e=>⟨(h.2 xs e).1,λ x hx=>⟨(h.2 xs e).2 x hx,λ ys e2=>absurd e2 (k xs e x hx ys)⟩⟩⟩
theorem leaf_dict {s:S}{q:List (Key × AV)}:leafOk (s++[.dK q]) (.ref s.length):=⟨⟨"dict",by simp only[tagOf,List.getElem?_append_right (Nat.le_refl _),Nat.sub_self,List.getElem?_cons_zero]⟩,trivial⟩
theorem its_dict {s:S}{q:List (Key × AV)}:items (.ref s.length) (s++[.dK q])=none:=by
 show lstO _ _=none
 unfold lstO
 rw[List.getElem?_append_right (Nat.le_refl _),Nat.sub_self];rfl
theorem isNm_e:isNm (.str "")=false:=by decide +kernel
theorem things {c d n i7 i8:Nat}{s:S}{ps:List Str}{xs ys:List AV}(T:Tb ps xs ys)(st:St38 c d n i7 i8 xs ys s)(x0 x2 x3:AV)(x4 x5 x6 x9 x10 x11 x12 x13:Option AV) :
  ∃ i z L,odd14 (en38 x0 d x2 x3 i7 i8 x4 x5 x6 x9 x10 x11 x12 x13) s=.ok (.ref i) (s++z)/\lstO (s++z) i=some L/\L.length=14/\∀ v∈L,Th14 i7 (s++z) v:=by
 obtain⟨_,_,lx,ly⟩:=tb_ok T s
 obtain⟨ha,hb,hnx,_⟩:=T.pr.facts
 have l0:=T.l0
 have l4:=T.l4
 obtain⟨x,xr,exs⟩:∃ x xr,xs=x :: xr:=by
  cases xs with
  | nil=>simp at lx;omega
  | cons x xr=>exact⟨x,xr,rfl⟩
 have rx:isRw x=true:=List.all_eq_true.mp ha x (by rw[exs];exact .head _)
 let E:=en38 x0 d x2 x3 i7 i8 x4 x5 x6 x9 x10 x11 x12 x13
 let s1:S:=s++[AO.dK []]
 let s2:S:=s1++[.lst []]
 let s3:S:=s2++[.lst [.non]]
 let s4:S:=s3++[.lst [.tup []]]
 let s5:S:=s4++[.lst []]
 let s6:S:=s5++[.lst [.ref s4.length]]
 let s7:S:=s6++[.dK [(.inr "a",.ref i7)]]
 let L:List AV:=[.non,.bl true,.int 0,.str "",.str "a",.ref s.length,.tup [],.ref s1.length,.ref s2.length,.ref s3.length,.ref s5.length,.tup [.tup []],x,.ref s6.length]
 have h7:lstO s6 i7=some xs:=lst_old (lst_old (lst_old (lst_old (lst_old (lst_old st.l7)))))
 have tn:∀ st,mTup pNil E st=.ok (.tup []) st:=λ st=>tup_ok rfl (by simp)
 have nn:∀ st,mNew (lLst pNil) E st=.ok (.ref st.length) (st++[.lst []]):=λ st=>new_ok (lLst_ok rfl (by simp))
 have ix:mBin opIx (mv 7) (mc (.int 0)) E s6=.ok x s6:=bin_ok rfl rfl (by
  show(need (lstO s6 i7) λ xs=>need (atI xs 0) λ v=>R.ok v s6)=_
  rw[h7,need_some,exs,show atI (x :: xr) 0=some x from atI_nat (j:=0) rfl];rfl)
 have dp:mDisp [((mc (.str "a")),(mv 7))] E s6=.ok (.ref s6.length) s7:=rfl
 have e:odd14 E s=.ok (.ref s7.length) (s7++[.lst L]):=
  new_st (lLst_st (cons_st rfl (cons_st rfl (cons_st rfl (cons_st rfl (cons_st rfl (cons_st (s1:=s1) rfl (cons_st (tn s1) (cons_st (s1:=s2) (nn s1) (cons_st (s1:=s3) (new_ok (lLst_ok (cons_ok rfl rfl) (by simp))) (cons_st (s1:=s4) (new_ok (lLst_ok (cons_ok (tn _) rfl) (by simp))) (cons_st (s1:=s6) (new_st (lLst_st (cons_st (nn s4) rfl) (by simp))) (cons_st (tup_ok (cons_ok (tn _) rfl) (by simp)) (cons_st ix (cons_st dp rfl)))))))))))))) (by show(14:Nat)<=1000;decide))
 refine⟨s7.length,[AO.dK []]++[.lst []]++[.lst [.non]]++[.lst [.tup []]]++[.lst []]++[.lst [.ref s4.length]]++[.dK [(.inr "a",.ref i7)]]++[.lst L],L,?_,?_,rfl,?_⟩
 ·rw[e];simp only[s7,s6,s5,s4,s3,s2,s1,List.append_assoc]
 ·have:=lst_last s7 L
  simp only[s7,s6,s5,s4,s3,s2,s1,List.append_assoc]at this ⊢
  exact this
 have hs8:s++([AO.dK []]++[.lst []]++[.lst [.non]]++[.lst [.tup []]]++[.lst []]++[.lst [.ref s4.length]]++[.dK [(.inr "a",.ref i7)]]++[.lst L])=s7++[.lst L]:=by
  simp only[s7,s6,s5,s4,s3,s2,s1,List.append_assoc]
 rw[hs8]
 have k1:lstO s1 i7=some xs:=lst_old st.l7
 have k2:lstO s2 i7=some xs:=lst_old k1
 have k3:lstO s3 i7=some xs:=lst_old k2
 have k4:lstO s4 i7=some xs:=lst_old k3
 have k5:lstO s5 i7=some xs:=lst_old k4
 have k6:lstO s6 i7=some xs:=h7
 have k7:lstO s7 i7=some xs:=lst_old k6
 have k8:lstO (s7++[.lst L]) i7=some xs:=lst_old k7
 have u7:∀ {v:AV},Th14 i7 s7 v->Th14 i7 (s7++[.lst L]) v:=λ h=>h.app k7
 have u6:∀ {v:AV},Th14 i7 s6 v->Th14 i7 (s7++[.lst L]) v:=λ h=>u7 (h.app k6)
 have u4:∀ {v:AV},Th14 i7 s4 v->Th14 i7 (s7++[.lst L]) v:=λ h=>u6 ((h.app k4).app k5)
 have u3:∀ {v:AV},Th14 i7 s3 v->Th14 i7 (s7++[.lst L]) v:=λ h=>u4 (h.app k3)
 have u2:∀ {v:AV},Th14 i7 s2 v->Th14 i7 (s7++[.lst L]) v:=λ h=>u3 (h.app k2)
 have u1:∀ {v:AV},Th14 i7 s1 v->Th14 i7 (s7++[.lst L]) v:=λ h=>u2 (h.app k1)
 have o0:∀ st,okD 2 st (.tup []):=λ st=>⟨⟨⟨_,rfl⟩,trivial⟩,λ ys e=>by cases e;exact⟨szl (by simp),λ _ h=>nomatch h⟩⟩
 have f0:Fit 900 (0:Int):=(fitI (n:=2) (by decide) (by decide)).mono (by decide)
 have ae:Asc "" 1:=⟨by decide +kernel,by decide +kernel⟩
 have aa:Asc "a" 1:=⟨by decide +kernel,by decide +kernel⟩
 intro v hv
 simp only[L,List.mem_cons,List.not_mem_nil,or_false]at hv
 rcases hv with rfl|rfl|rfl|rfl|rfl|rfl|rfl|rfl|rfl|rfl|rfl|rfl|rfl|rfl
 ·exact th14_not ⟨⟨_,rfl⟩,trivial⟩ rfl rfl (by simp[depA])
 ·exact th14_not ⟨⟨_,rfl⟩,trivial⟩ rfl rfl (by simp[depA])
 ·exact th14_not ⟨⟨_,rfl⟩,f0⟩ rfl rfl (by simp[depA])
 ·exact th14_not ⟨⟨_,rfl⟩,ae.all,ae.small (by decide)⟩ rfl rfl (by simp[depA])
 ·exact th14_not ⟨⟨_,rfl⟩,aa.all,aa.small (by decide)⟩ rfl rfl (by simp[depA])
 ·exact u1 (th14_not leaf_dict rfl its_dict (by simp[depA]))
 ·exact th14_tup k8 hnx (by simp) (λ _ h=>nomatch h) (by rintro rfl;simp at l0)
 ·exact u2 (th14_lst (lst_last s1 []) (by simp) (λ _ h=>nomatch h))
 ·exact u3 (th14_lst (lst_last s2 _) (by simp) (λ y hy=>by rw[List.mem_singleton.mp hy];exact⟨okD2 (th_non _).ok (λ _ e=>nomatch e),by simp[depA]⟩))
 ·exact u4 (th14_lst (lst_last s3 _) (by simp) (λ y hy=>by rw[List.mem_singleton.mp hy];exact⟨o0 _,by simp[depA,depAs]⟩))
 ·exact u6 (th14_lst (lst_last s5 _) (by simp) (λ y hy=>by rw[List.mem_singleton.mp hy];exact⟨okD2 (th_lst (lst_old (lst_last s4 []))).ok (λ _ e=>nomatch e),by simp[depA]⟩))
 ·refine th14_tup k8 hnx (by simp) (λ y hy=>by rw[List.mem_singleton.mp hy];exact⟨o0 _,by simp[depA,depAs]⟩) ?_
  intro e
  have:=T.nm "" (by rw[e];exact .head _)
  rw[isNm_e]at this;cases this
 ·obtain⟨p,e1,f1,w1,d1,r1,kk,g1,a1,rfl,_⟩:=isRw_inv rx
  obtain⟨⟨_,ho⟩,hd,_⟩:=(tb_ok T (s7++[.lst L])).1 _ (by rw[exs];exact .head _)
  obtain⟨_,ho⟩:=ho _ rfl
  refine th14_tup k8 hnx (by show(9:Nat)<=60;decide) (λ y hy=>⟨okD2 (ho y hy) ?_,?_⟩) ?_
  ·intro zs ez z hz ws ew
   subst ez ew
   simp only[List.mem_cons,List.not_mem_nil,or_false]at hy
   have fqn:∀ q:Rat,.tup zs=fq q->False:=λ q e=>by
    cases e
    simp only[List.mem_cons,List.not_mem_nil,or_false]at hz
    rcases hz with h|h<;>cases h
   rcases hy with h|h|h|h|h|h|h|h|h<;>first|exact fqn _ h|cases h
  ·have hd:depAs _+1<=4:=hd
   have:∀ (l:List AV) (y:AV),y∈l->depA y<=depAs l:=by
    intro l
    induction l with
    | nil=>intro y h;cases h
    | cons a r ih=>
     intro y h
     simp only[depAs]
     rcases List.mem_cons.mp h with rfl|h
     ·exact Nat.le_max_left _ _
     ·exact Nat.le_trans (ih y h) (Nat.le_max_right _ _)
   have:=this _ y hy
   omega
  ·intro e
   have:=congrArg List.length e
   have:ps.length=9:=this
   omega
 ·exact u7 (th14_not leaf_dict rfl its_dict (by simp[depA]))
theorem fst_ok {i:Nat}{xs ys:List AV}{env:En}{s:S}(h:lstO s i=some (prT xs ys)) (e:mv 3 env s=.ok (.ref i) s) (hl:xs.length=ys.length)(h4:xs.length<=4)(e2:srcE [("_law_pair",none)] env=[none]) :
  mNew (lComp [("_law_pair",none)] (srcV' (mv 3)) (gN 0) cYes (mBin opIx (mv 0) (mc (.int 0)))) env s=.ok (.ref s.length) (s++[.lst xs])/\mNew (lComp [("_law_pair",none)] (srcV' (mv 3)) (gN 0) cYes (mBin opIx (mv 0) (mc (.int 1)))) env s=.ok (.ref s.length) (s++[.lst ys]):=by
 obtain⟨gs,e1,hg⟩:=src_ok (m:=mv 3) (env:=env) (show items (.ref i) s=some (prT xs ys) from h) e
 have hl4:(prT xs ys).length<=sizeLine:=by
  have:=congrArg List.length (prT_fst hl)
  rw[List.length_map]at this
  exact szl (by omega)
 constructor
 ·refine new_ok ?_
  unfold lComp
  rw[e1,bind_ok',if_pos hl4,e2,comp_map pF hg (prT xs ys) [] none λ v hv=>?_]
  ·rw[prT_fst hl];rfl
  ·obtain⟨x,_,y,_,rfl⟩:=prT_mem hv
   rfl
 ·refine new_ok ?_
  unfold lComp
  rw[e1,bind_ok',if_pos hl4,e2,comp_map pS hg (prT xs ys) [] none λ v hv=>?_]
  ·rw[prT_snd hl];rfl
  ·obtain⟨x,_,y,_,rfl⟩:=prT_mem hv
   rfl
theorem isnt_t {m:Ev}{env:En}{s:S}(h:m env s=.ok (.bl true) s):cB (mBin opIsntN m (mc (.bl true))) env s=.ok false s:=b_ok (bin_ok h rfl rfl)
theorem is_t {m:Ev}{env:En}{s:S}(h:m env s=.ok (.bl true) s):mBin opIsB m (mc (.bl true)) env s=.ok (.bl true) s:=bin_ok h rfl rfl
theorem tup_its {i:Nat}{xs:List AV}{m:Ev}{env:En}{s:S}(h:lstO s i=some xs)(hl:xs.length<=1000)(e:m env s=.ok (.ref i) s):gOp qTuple (lIts m) env s=.ok (.tup xs) s:=by
 unfold gOp lIts
 rw[e,bind_ok']
 show(need (lstO s i) λ xs=>R.ok xs s).bind qTuple=_
 rw[h]
 rfl
theorem law_wp (ns:List Int):(f_law [.sq (ns.map AV.int)] []).wp λ v s'=>v=.bl true:=by
 unfold f_law b_law
 refine fn1w' ?_
 refine seq_step λ K hK=>?_
 try walk_at "w"
 refine(begin_wp ns).mono ?_
 rintro _ s0 ⟨c,d,rfl,D0⟩
 rw[hK]
 clear hK K
 refine seq_step λ K hK=>?_
 try simp only[↓WS,↓WE,↓WV,Lq,len_sz,UU,Nat.reduceSub,↓reduceIte,↓wp_sortN]
 refine(take_wp D0 (by omega) (by omega) (fit9 (by omega) (by omega))).mono ?_
 rintro _ s1 ⟨j,rfl,j0,j1,D1,K1⟩
 try walk_at "w"
 refine(names4 D1 (by omega) (k:=1+j) (by omega) (by omega)).mono ?_
 rintro _ s2 ⟨i,zs,rfl,hi,l2,lz,nz,nd,D2,G2⟩
 obtain⟨D3,K3,al3⟩:=(K1.gk.trans G2).cut D0 D2
 have hk1:=K1.len
 show(need (lstO s2 i) _).wp _
 rw[l2,need_some,if_pos ⟨by omega,al3,low_strs _ _⟩,wp_ok]
 rw[txts_map,need_some,if_pos (by omega)]
 show K _ _
 rw[hK]
 clear hK K al3 l2 G2 D2 K1
 have mem:∀ p∈sortS zs,p∈nm24:=λ p hp=>nz p (sort_mem hp)
 have up:=sort_rises nd
 have lps:(sortS zs).length=zs.length:=(sortS_perm zs).length_eq
 revert D3 K3
 generalize s2.take s0.length=s3
 intro D3 K3
 revert mem up lps
 generalize sortS zs=ps
 intro mem up lps
 have D4:=D3.app (e:=[.lst (ps.map AV.str)]) (D3.cl.add (by simp[AO.low,low_strs]))
 have l4:=lst_last s3 (ps.map AV.str)
 have ne2:s3.length≠c/\s3.length≠d:=⟨by have:=D3.ltc;omega,by have:=D3.ltd;omega⟩
 generalize s3.length=i2 at l4 ne2
 generalize s3++[.lst (ps.map AV.str)]=s4 at D4 l4 ⊢
 clear D3 K3
 refine seq_step λ K hK=>?_
 rw[WS.2.1,WE.2.2.2.2.2.1]
 refine(made_all D4 (by omega) l4 mem (by omega) ne2.1 ne2.2 rfl rfl).mono ?_
 rintro _ s5 ⟨xs,ys,rfl,pr,od,D5,K5⟩
 rw[hK]
 clear hK K
 have fc:=pr.facts
 have T:Tb ps xs ys:=⟨pr,up,by omega,by omega,λ p hp=>(nm24_nm p (mem p hp)).1,od⟩
 obtain⟨_,_,lx,ly⟩:=tb_ok T s5
 have lowx:∀ b,lowL b xs=true:=λ b=>lowL_of λ x hx=>by
  have:=((tb_ok T (List.replicate b (AO.lst []))).1 x hx).2.2
  rwa [List.length_replicate]at this
 have lowy:∀ b,lowL b ys=true:=λ b=>lowL_of λ x hx=>by
  have:=((tb_ok T (List.replicate b (AO.lst []))).2.1 x hx).2.2
  rwa [List.length_replicate]at this
 have lowp:∀ b,lowL b (prT xs ys)=true:=λ b=>lowL_of λ v hv=>by
  obtain⟨x,hx,y,hy,rfl⟩:=prT_mem hv
  simp only[AV.low,lowL,low_mem' (lowx b) hx,low_mem' (lowy b) hy];rfl
 have D6:=D5.app (e:=[.lst (prT xs ys)]) (D5.cl.add (by simp only[List.all_cons,List.all_nil,Bool.and_true];exact lowp _))
 have l6:=lst_last s5 (prT xs ys)
 generalize s5.length=i3 at l6
 generalize s5++[.lst (prT xs ys)]=s6 at D6 l6 ⊢
 clear D5 K5
 refine seq_step λ K hK=>?_
 rw[WS.2.2.2.2.2.2.1,wpe (fst_ok l6 rfl (by omega) (by omega) rfl).1,wpe (fst_ok (lst_old l6) rfl (by omega) (by omega) rfl).2]
 rw[hK]
 clear hK K
 have D7:=D6.app (e:=[.lst xs]) (D6.cl.add (by simp only[List.all_cons,List.all_nil,Bool.and_true];exact lowx _))
 have D8:=D7.app (e:=[.lst ys]) (D7.cl.add (by simp only[List.all_cons,List.all_nil,Bool.and_true];exact lowy _))
 have st:St38 c d (0+1+20+160) s6.length (s6++[AO.lst xs]).length xs ys (s6++[.lst xs]++[.lst ys]):=⟨D8,lst_old (lst_last _ _),lst_last _ _,by have:=D6.ltc;omega,by have:=D6.ltd;omega,by have:=D7.ltc;omega,by have:=D7.ltd;omega⟩
 generalize s6.length=i7 at st ⊢
 generalize (s6++[AO.lst xs]).length=i8 at st ⊢
 generalize s6++[.lst xs]++[.lst ys]=s8 at st ⊢
 clear D7 D8
 show(sSeq _ _ (en38 (.sq (ns.map AV.int)) d (.ref i2) (.ref i3) i7 i8 none none none none none none none none) s8).wp _ _
 have hx60:xs.length<=60:=by omega
 have hy60:ys.length<=60:=by omega
 have o7:okT s8 (.ref i7):=okT_lst st.l7 hx60 λ x hx=>((tb_ok T s8).1 x hx).1
 have o8:okT s8 (.ref i8):=okT_lst st.l8 hy60 λ x hx=>((tb_ok T s8).2.1 x hx).1
 have ot:okT s8 (.tup xs):=okT_tup hx60 λ x hx=>((tb_ok T s8).1 x hx).1
 refine seq_step λ K hK=>?_
 refine skip_wp (or_f (isnt_t (shows_c (z:=[]) rfl rfl (by rw[List.append_nil]) o7 o8 (Pair_ref _ _ _) (shown_of pr up st.l7 st.l8))) (isnt_t (shows_c (z:=[]) (tup_its st.l7 (by omega) rfl) rfl (by rw[List.append_nil]) ot o8 (Pair_ref _ _ _) (shown_of pr up rfl st.l8)))) ?_
 rw[hK]
 clear hK K
 refine seq_step λ K hK=>?_
 rw[WS.2.2.2.2.2.2.2.2.1,wp_srcR]
 refine⟨⟨by decide,by decide⟩,?_⟩
 refine for_wp (λ l env st=>∃ (x4 x9 x10 x12 x13:Option AV) (z:Nat),l.length+z=10/\env=en38 (.sq (ns.map AV.int)) d (.ref i2) (.ref i3) i7 i8 x4 none none x9 x10 none x12 x13/\St38 c d (181+60 * z) i7 i8 xs ys st) ?_ ?_ ?_ _ _ _ ⟨_,_,_,_,_,0,by simp[rngA],rfl,st⟩
 ·exact λ _ _ st _=>gOk_nil st
 case refine_3=>
  rintro v r env s ⟨x4,x9,x10,x12,x13,z,hz,rfl,st⟩
  have hz:r.length+1+z=10:=hz
  rw[WS.2.2.2.2.2.2.2.2.2.2.1]
  refine(turn10 T st (by omega) (.sq (ns.map AV.int)) (.ref i2) (.ref i3) (some v) none none x9 x10 none x12 x13 _).mono ?_ (λ _ _ h=>h)
  rintro env s' ⟨y9,y10,y12,y13,rfl,st'⟩
  exact⟨_,_,_,_,_,z+1,by omega,rfl,⟨st'.dr.mono (by omega),st'.l7,st'.l8,st'.ne⟩⟩
 rintro env s9 ⟨x4,x9,x10,x12,x13,z,hz,rfl,st⟩
 rw[hK]
 clear hK K
 have hz:0+z=10:=hz
 refine seq_step λ K hK=>?_
 rw[WS.2.2.2.2.2.2.2.2.1,wp_srcR]
 refine⟨⟨by decide,by decide⟩,?_⟩
 refine for_wp (λ l env st=>∃ (x4 x11:Option AV) (y:Nat),l.length+y=6/\env=en38 (.sq (ns.map AV.int)) d (.ref i2) (.ref i3) i7 i8 x4 none none x9 x10 x11 x12 x13/\St38 c d (181+60 * z+60 * y) i7 i8 xs ys st) ?_ ?_ ?_ _ _ _ ⟨_,_,0,by simp[rngA],rfl,st⟩
 ·exact λ _ _ st _=>gOk_nil st
 case refine_3=>
  rintro v r env s ⟨x4,x11,y,hy,rfl,st⟩
  have hy:r.length+1+y=6:=hy
  rw[WS.2.2.2.2.2.2.2.2.2.2.1]
  refine(turn6 T st (by omega) (.sq (ns.map AV.int)) (.ref i2) (.ref i3) (some v) none none x9 x10 x11 x12 x13 _).mono ?_ (λ _ _ h=>h)
  rintro env s' ⟨y11,rfl,st'⟩
  exact⟨_,_,y+1,by omega,rfl,⟨st'.dr.mono (by omega),st'.l7,st'.l8,st'.ne⟩⟩
 rintro env s10 ⟨x4,x11,y,hy,rfl,st⟩
 rw[hK]
 clear hK K
 refine seq_step λ K hK=>?_
 obtain⟨i5,zz,L,e5,l5,hL,th⟩:=things T st (.sq (ns.map AV.int)) (.ref i2) (.ref i3) x4 none none x9 x10 x11 x12 x13
 refine Eq.mpr (set_ok e5 _ _) ?_
 rw[hK]
 clear hK K e5
 have l7:lstO (s10++zz) i7=some xs:=lst_old st.l7
 have l8:lstO (s10++zz) i8=some ys:=lst_old st.l8
 generalize s10++zz=s11 at l5 th l7 l8 ⊢
 have o7:okT s11 (.ref i7):=okT_lst l7 hx60 λ x hx=>((tb_ok T s11).1 x hx).1
 have o8:okT s11 (.ref i8):=okT_lst l8 hy60 λ x hx=>((tb_ok T s11).2.1 x hx).1
 have d7:Dp s11 (.ref i7):=Dp_lst l7 λ x hx=>by have:=((tb_ok T s11).1 x hx).2.1;omega
 have d8:Dp s11 (.ref i8):=Dp_lst l8 λ x hx=>by have:=((tb_ok T s11).2.1 x hx).2.1;omega
 show(sSeq _ _ (en38 (.sq (ns.map AV.int)) d (.ref i2) (.ref i3) i7 i8 x4 (some (.ref i5)) none x9 x10 x11 x12 x13) s11).wp _ _
 refine seq_step λ K hK=>?_
 have e6:srcV' (mv 5) (en38 (.sq (ns.map AV.int)) d (.ref i2) (.ref i3) i7 i8 x4 (some (.ref i5)) none x9 x10 x11 x12 x13) s11=.ok (L,[(i5,L)]) s11:=by
  show need (lstO s11 i5) _=_
  rw[l5];rfl
 rw[WS.2.2.2.2.2.2.2.2.1,wpe e6]
 refine for_wp (λ l env st=>∃ x6:Option AV,(∀ v∈l,Th14 i7 s11 v)/\st=s11/\env=en38 (.sq (ns.map AV.int)) d (.ref i2) (.ref i3) i7 i8 x4 (some (.ref i5)) x6 x9 x10 x11 x12 x13) ?_ ?_ ?_ _ _ _ ⟨none,th,rfl,rfl⟩
 ·rintro _ _ st ⟨_,_,rfl,_⟩
  exact(Mm.gOk_one i5 L st).mpr l5
 case refine_3=>
  rintro v r env s ⟨x6,hv,rfl,rfl⟩
  rw[WS.2.2.2.2.2.2.2.2.2.2.1]
  have t:=hv v (.head _)
  refine skip_wp (or_f (taken_c (z:=[]) (v:=v) (w:=.ref i8) rfl rfl (by rw[List.append_nil]) t.ok o8 (Pair_ref _ _ _) t.dp d8) (taken_c (z:=[]) (v:=.ref i7) (w:=v) rfl rfl (by rw[List.append_nil]) o7 t.ok t.pr d7 t.dp)) ?_
  exact⟨_,λ w hw=>hv w (.tail _ hw),rfl,rfl⟩
 rintro env s12 ⟨x6,_,rfl,rfl⟩
 rw[hK]
 clear hK K
 have nn:∀ env st,mNew (lLst pNil) env st=.ok (.ref st.length) (st++[.lst []]):=λ env st=>new_ok (lLst_ok rfl (by simp))
 have oe:∀ (st:S) (i:Nat),lstO st i=some []->okT st (.ref i):=λ st i h=>okT_lst h (by simp) (λ _ h=>nomatch h)
 rw[WS.2.2.1]
 rw[wpe (and_ok (x:=true) (y:=true) (is_t (shows_c (z:=[.lst []]++[.lst []]) (nn _ _) (nn _ _) (by rw[List.append_assoc]) (oe _ _ (lst_old (lst_last _ _))) (oe _ _ (lst_last _ _)) (Pair_ref _ _ _) (shown_of (ps:=[]) (xs:=[]) (ys:=[]) trivial rfl (lst_old (lst_last _ _)) (lst_last _ _)))) λ _=>is_t (shows_c (z:=[.lst []]) (tup_ok (vs:=[]) rfl (by simp)) (nn _ _) rfl (okT_tup (by simp) (λ _ h=>nomatch h)) (oe _ _ (lst_last _ _)) (Pair_ref _ _ _) (shown_of (ps:=[]) (xs:=[]) (ys:=[]) trivial rfl rfl (lst_last _ _))))]
 rfl
end Ro
def PySem.W.Fast.tw8311632081258135437:Unit:=()
def PySem.W.Fast.tw7996356313283256904:Unit:=()
def PySem.W.Fast.tw14122037032945706151:Unit:=()
def PySem.W.Fast.tw7537472742649339986:Unit:=()
def PySem.W.Fast.tw2511551010629476108:Unit:=()
def PySem.W.Fast.tw5009094271577681591:Unit:=()
def PySem.W.Fast.tw4663161952441063424:Unit:=()
def PySem.W.Fast.tw14123509391465265249:Unit:=()
def PySem.W.Fast.tw15331700937548844364:Unit:=()
def PySem.W.Fast.tw9445684930036785940:Unit:=()
open PySem PySem.W PyProof.Rows
set_option maxRecDepth 100000 in
set_option maxHeartbeats 0 in
theorem PySem.Challenge.cw_royaltree_k38_things_that_are_no_stateme_holds : PySem.Challenge.rw_royaltree_k38_things_that_are_no_stateme.Holds := by
 w_on;o_law;k_head;(case hw=>w_witness2)
 k_fill
 refine Ro.walk (l:=PySem.Challenge.rw_royaltree_k38_things_that_are_no_stateme) Ro.f_law 7 ⟨rfl,rfl,by decide,by decide⟩ Ro.law_wp rfl rfl (λ w h Y=>PySem.W.kIn_of Y) ?F
 case F=>
  intro w mg fa h KX G hmg
  refine' Ro.fin_mk KX G hmg ?_ ?_ ?_ ?_ ?_ ?_ ?_ ?_ ?_ ?_ ?_ ?_ ?_ ?_ ?_ ?_ ?_ ?_ ?_ ?_ ?_ ?_ ?_ ?_ ?_ ?_ ?_ ?_ ?_ ?_ ?_ ?_ ?_ ?_ ?_ ?_ ?_ ?_ ?_ ?_ ?_ ?_ ?_ ?_ ?_ ?_ ?_ ?_
  (k_is)
  (k_is)
  (k_is)
  (k_is)
  (k_is)
  (k_is)
  (k_is)
  (k_is)
  (k_is)
  (k_is)
  (k_is)
  (k_is)
  (k_is)
  (k_is)
  (k_is)
  (refine' Ro.kst_mk1 (x:="LONGEST_NAME") (v:=.int 8) KX G ?a ?r ?w;(case a=>k_is);(case r=>exact⟨_,rfl⟩);(case w=>exact λ ρ H=>by unfold Mm.VR;rfl))
  (refine' Ro.kst_mk (x:="NOTHING") (vs:=[.int 0,.int 1]) KX G ?a ?l ?v ?s ?w;(case a=>k_is);(case l=>k_is);(case v=>exact .cons ⟨_,rfl⟩ (.cons ⟨_,rfl⟩ (.nil)));(case s=>decide);(case w=>exact λ ρ H=>.cons (by unfold Mm.VR;rfl) (.cons (by unfold Mm.VR;rfl) (.nil))))
  (refine' Ro.kst_mk (x:="ONE") (vs:=[.int 1,.int 1]) KX G ?a ?l ?v ?s ?w;(case a=>k_is);(case l=>k_is);(case v=>exact .cons ⟨_,rfl⟩ (.cons ⟨_,rfl⟩ (.nil)));(case s=>decide);(case w=>exact λ ρ H=>.cons (by unfold Mm.VR;rfl) (.cons (by unfold Mm.VR;rfl) (.nil))))
  (refine' Ro.kst_mk1 (x:="PLACES") (v:=.int 9) KX G ?a ?r ?w;(case a=>k_is);(case r=>exact⟨_,rfl⟩);(case w=>exact λ ρ H=>by unfold Mm.VR;rfl))
  all_goals (refine' Ro.df_mk KX G ?a ?l ?c ?k;(case a=>k_is);(case l=>k_is);(case c=>k_is);(case k=>k_is))
