import PyProof.Rows.All
import Wide.All
import OpenK.AllK
import Wide.FinOn
import Lean
import PyProof.EqAt
import PyProof.EqKinds
import PyProof.TupleCall
import PySem.Challenge.RW_royaltree_k06_what_rows_are
set_option Elab.async false
set_option linter.all false
set_option maxRecDepth 100000
namespace L2
open PySem PySem.Spec PyProof.Rows
abbrev Key:=Sum Int Str
def keyIs:Key->Value->Bool
 | .inl k,v=>Value.isInt k v
 | .inr x,v=>Value.isStrOf x v
def keyH (w:World):Key->Int
 | .inl k=>hashInt k
 | .inr x=>hashStr w x
theorem keyIs_shape:∀ {k:Key}{v:Value},keyIs k v=true->(∃ i t,k=Sum.inl i/\v=Value.int i t)∨(∃ x t,k=Sum.inr x/\v=Value.str x t)
 | .inl i,v,h=>by
  obtain⟨t,e⟩:=Value.isInt_shape (k:=i) (v:=v) h
  exact .inl ⟨i,t,rfl,e⟩
 | .inr x,v,h=>by
  obtain⟨t,e⟩:=Value.isStrOf_shape (x:=x) (v:=v) h
  exact .inr ⟨x,t,rfl,e⟩
theorem keyIs_int (i:Int)(t:Tok):keyIs (.inl i) (.int i t)=true:=by simp[keyIs,Value.isInt]
theorem keyIs_str (x:Str)(t:Tok):keyIs (.inr x) (.str x t)=true:=by simp[keyIs,Value.isStrOf]
theorem key_ll (a b:Int):decide ((Sum.inl a:Key)=Sum.inl b)=(a == b):=by
 by_cases e:a=b
 ·subst e;simp
 ·have h:¬ (Sum.inl a:Key)=Sum.inl b:=λ q=>e (Sum.inl.inj q)
  rw[decide_eq_false h]
  exact(beq_eq_false_iff_ne.mpr e).symm
theorem key_rr (a b:Str):decide ((Sum.inr a:Key)=Sum.inr b)=decide (a=b):=by
 by_cases e:a=b
 ·subst e;simp
 ·have h:¬ (Sum.inr a:Key)=Sum.inr b:=λ q=>e (Sum.inr.inj q)
  rw[decide_eq_false h,decide_eq_false e]
theorem key_lr (a:Int)(b:Str):decide ((Sum.inl a:Key)=Sum.inr b)=false:=decide_eq_false (λ q=>nomatch q)
theorem key_rl (a:Str)(b:Int):decide ((Sum.inr a:Key)=Sum.inl b)=false:=decide_eq_false (λ q=>nomatch q)
def mixKind (prog:Program)(w:World):PySem.KeyKind prog w Key where
 is:=keyIs
 hash:=keyH w
 inj:=λ v a b ha hb=>by
  rcases keyIs_shape ha with⟨i,t,rfl,rfl⟩|⟨x,t,rfl,rfl⟩
  ·rcases keyIs_shape hb with⟨j,u,rfl,e⟩|⟨y,u,rfl,e⟩
   ·injection e with e1 _;rw[e1]
   ·exact nomatch e
  ·rcases keyIs_shape hb with⟨j,u,rfl,e⟩|⟨y,u,rfl,e⟩
   ·exact nomatch e
   ·injection e with e1 _;rw[e1]
 byValue:=λ k v h=>by
  rcases keyIs_shape h with⟨i,t,rfl,rfl⟩|⟨x,t,rfl,rfl⟩<;>rfl
 pyHash:=λ hv h=>by
  rcases keyIs_shape hv with⟨i,t,rfl,rfl⟩|⟨x,t,rfl,rfl⟩
  ·exact wpAny_pyHash_int h
  ·exact wpAny_pyHash_str h
 eqBool:=λ hu hv h=>by
  rcases keyIs_shape hu with⟨i,t,rfl,rfl⟩|⟨x,t,rfl,rfl⟩
  ·rcases keyIs_shape hv with⟨j,u,rfl,rfl⟩|⟨y,u,rfl,rfl⟩
   ·rw[key_ll]at h;exact wpAny_eqBool_int h
   ·rw[key_lr]at h;exact SeqAt.EqAt.int_str i t y u _ _ _ _ h
  ·rcases keyIs_shape hv with⟨j,u,rfl,rfl⟩|⟨y,u,rfl,rfl⟩
   ·rw[key_rl]at h;exact SeqAt.EqAt.str_int x t j u _ _ _ _ h
   ·rw[key_rr]at h;exact wpAny_eqBool_str h
 «strs»:=λ k x t v h=>by
  rcases keyIs_shape h with⟨i,u,rfl,e⟩|⟨y,u,rfl,e⟩
  ·exact nomatch e
  ·injection e with e1 _
   subst e1
   cases v<;>rfl
theorem mixKind_int (prog:Program)(w:World)(i:Int)(t:Tok):(mixKind prog w).is (.inl i) (.int i t)=true:=keyIs_int i t
theorem mixKind_str (prog:Program)(w:World)(x:Str)(t:Tok):(mixKind prog w).is (.inr x) (.str x t)=true:=keyIs_str x t
end L2
namespace L2
open PySem PySem.Spec PyProof.Rows
inductive V where
 | non|bl (b:Bool)|int (i:Int)|str (x:Str)|byt (b:Array UInt8)|flt (b:UInt64)|ref (a:Addr)|ty (n:String)
 deriving DecidableEq
def RelV:V->Value->Prop
 | .non,u=>u=Value.none
 | .bl b,u=>u=Value.bool b
 | .int i,u=>∃ t,u=Value.int i t
 | .str x,u=>∃ t,u=Value.str x t
 | .byt b,u=>∃ t,u=Value.bytes b t
 | .flt b,u=>∃ t,u=Value.float b t
 | .ref a,u=>u=Value.ref a
 | .ty n,u=>u=Value.type n
abbrev Vals:List V->List Value->Prop:=Paired RelV
theorem Vals.length {xs:List V}{us:List Value}(r:Vals xs us):xs.length=us.length:=Paired.length r
theorem Vals.get:∀ {xs:List V}{us:List Value}{i:Nat}{x:V},Vals xs us->xs[i]? = some x->∃ u,us[i]? = some u/\RelV x u
 | _,_,_,_,.nil,e=>by simp at e
 | _,_,0,_,.cons r _,e=>by simp at e;subst e;exact⟨_,rfl,r⟩
 | _,_,i+1,x,.cons _ t,e=>by
  obtain⟨u,h1,h2⟩:=Vals.get (i:=i) (x:=x) t (by simpa using e)
  exact⟨u,by simpa using h1,h2⟩
theorem Vals.set {x:V}{u:Value}(r:RelV x u):∀ {xs:List V}{us:List Value}(i:Nat),Vals xs us->Vals (xs.set i x) (us.set i u)
 | _,_,_,.nil=>.nil
 | _,_,0,.cons _ t=>.cons r t
 | _,_,i+1,.cons q t=>.cons q (Vals.set r i t)
theorem Vals.append:∀ {xs ys:List V}{us ws:List Value},Vals xs us->Vals ys ws->Vals (xs++ys) (us++ws)
 | _,_,_,_,.nil,s=>s
 | _,_,_,_,.cons r t,s=>.cons r (Vals.append t s)
theorem Vals.take:∀ {xs:List V}{us:List Value}(n:Nat),Vals xs us->Vals (xs.take n) (us.take n)
 | _,_,0,_=>.nil
 | _,_,_+1,.nil=>.nil
 | _,_,n+1,.cons r t=>.cons r (Vals.take n t)
theorem Vals.drop:∀ {xs:List V}{us:List Value}(n:Nat),Vals xs us->Vals (xs.drop n) (us.drop n)
 | _,_,0,r=>r
 | _,_,_+1,.nil=>.nil
 | _,_,n+1,.cons _ t=>Vals.drop n t
def RelO:Option V->Option Value->Prop
 | some v,some u=>RelV v u
 | none,none=>True
 | _,_=>False
def KV {κ:Type}:List (κ × V)->List (κ × Value)->Prop:=Paired λ(p:κ × V) (q:κ × Value)=>p.1=q.1/\RelV p.2 q.2
def kV:Key->V
 | .inl i=>.int i
 | .inr x=>.str x
inductive HO where
 | lst (xs:List V)
 | tup (xs:List V)
 | dK (kvs:List (Key × V))|dT (kvs:List (List Key × V))
 | set (S:Int->Bool) (n:Nat)
 | ins (C dx:Addr) (fs:List (Str × V))
 | own (x:Addr)
 | xd (fs:List (Str × V))
 | met (f x:Addr)
 | rng (lo hi:Int)
 | frz (o:Obj) (u:HO)
 | tbl (ps:Array Value)
 | ext (φ:Heap->Prop)
abbrev Hp:=Addr->Option HO
def upd (H:Hp)(a:Addr)(o:HO):Hp:=λ b=>if b=a then some o else H b
theorem upd_same {H:Hp}{a:Addr}{o:HO}:upd H a o a=some o:=by unfold upd;rw[if_pos rfl]
theorem upd_ne {H:Hp}{a b:Addr}{o:HO}(h:b≠a):upd H a o b=H b:=by unfold upd;rw[if_neg h]
theorem ne_of {H:Hp}{a b:Addr}{o u:HO}(h:H a=some o)(h':H b=some u)(d:o≠u):a≠b:=by
 intro e;subst e;rw[h]at h';exact d (Option.some.inj h')
theorem ne_of_none {H:Hp}{a b:Addr}{o:HO}(h:H a=some o)(h':H b=none):a≠b:=by
 intro e;subst e;rw[h]at h';cases h'
section
variable (P:Program)(w:World)
def ObjOk (H:Hp)(h:Heap)(a:Addr):HO->Prop
 | .lst xs=>xs.length<=sizeLine/\∃ (its:List Value) (n:Nat),Vals xs its/\h.get? a=some { cls:=.type "list",data:=.seq its.toArray n }
 | .tup xs=>xs.length<=sizeLine/\∃ its:List Value,Vals xs its/\IsTup h a its.toArray
 | .dK kvs=>kvs.length<=sizeLine/\(a == sysModules)=false/\∃ vs,KV kvs vs/\h.DictOf (mixKind P w) a vs
 | .dT kvs=>kvs.length<=sizeLine/\(a == sysModules)=false/\∃ xs:List (List Key × Addr × Value),
   Paired (λ(p:List Key × V) (q:List Key × Addr × Value)=>p.1=q.1/\H q.2.1=some (.tup (p.1.map kV))/\RelV p.2 q.2.2) kvs xs/\
   ∃ o es ep,h.get? a=some o/\o.ExactDict/\o.data=.dict es ep/\es.toList=xs.map (entryOfKey (tupleKind (mixKind P w)))/\(xs.map (·.1)).Nodup
 | .set S n=>h.SetOf (intKind P w) a S n
 | .ins C dx fs=>H dx=some (.own a)/\fs.length<=1000/\dx≠a/\h.get? a=some (PySem.W.instObj C dx)/\
   ∃ mA,h.Ns1 dx mA/\(∀ f,RelO (fs.lookup f) (mA f))/\PySem.Within mA (fs.map (·.1))
 | .own _=>∃ o,h.get? a=some o
 | .xd fs=>∃ mA,h.Ns1 a mA/\∀ f,RelO (fs.lookup f) (mA f)
 | .rng lo hi=>∃ t u v,h.get? a=some { cls:=.type "range",data:=.fields #[.int lo t,.int hi u,.int 1 v] }
 | .frz o u=>h.get? a=some o/\ObjOk H h a u
 | .tbl ps=>h.get? a=some { cls:=.none,data:=.fields ps }
 | .met f x=>h.get? a=some (PySem.W.methodObj (.ref f) (.ref x))
 | .ext φ=>φ h/\(∃ o,h.get? a=some o)/\∀ h1 h2:Heap,φ h1->(∀ o,h1.get? a=some o->h2.get? a=some o)->φ h2
def HOk (H:Hp)(h:Heap):Prop:=∀ a o,H a=some o->ObjOk P w H h a o
end
section
variable {P:Program}{w:World}{H H':Hp}{h h':Heap}{a:Addr}{o:HO}
theorem ObjOk.lt (x:ObjOk P w H h a o):a < h.objs.size:=by
 cases o with
 | lst xs=>obtain⟨_,_,_,_,e⟩:=x;exact Heap.lt_size e
 | tup xs=>obtain⟨_,_,_,p⟩:=x;exact p.lt
 | dK kvs=>obtain⟨_,_,_,_,o,_,_,e,_⟩:=x;exact Heap.lt_size e
 | dT kvs=>obtain⟨_,_,_,_,o,_,_,e,_⟩:=x;exact Heap.lt_size e
 | set S n=>obtain⟨o,_,_,_,e,_⟩:=x;exact Heap.lt_size e
 | ins C dx fs=>obtain⟨_,_,_,e,_⟩:=x;exact Heap.lt_size e
 | own y=>obtain⟨_,e⟩:=x;exact Heap.lt_size e
 | xd fs=>obtain⟨_,⟨_,_,_,e,_⟩,_⟩:=x;exact Heap.lt_size e
 | rng lo hi=>obtain⟨_,_,_,e⟩:=x;exact Heap.lt_size e
 | frz ob u=>obtain⟨e,_⟩:=x;exact Heap.lt_size e
 | tbl ps=>exact Heap.lt_size (show h.get? a=some _ from x)
 | met f y=>exact Heap.lt_size (show h.get? a=some _ from x)
 | ext φ=>obtain⟨_,⟨_,e⟩,_⟩:=x;exact Heap.lt_size e
theorem Paired.mapP {α β:Type}{F G:α->β->Prop}:∀ {l₁:List α}{l₂:List β},Paired F l₁ l₂->(∀ a b,F a b->G a b)->Paired G l₁ l₂
 | _,_,.nil,_=>.nil
 | _,_,.cons r t,f=>.cons (f _ _ r) (Paired.mapP t f)
theorem ObjOk.stay (x:ObjOk P w H h a o)(k:∀ b u,(b=a∨H b=some (.own a))->h.get? b=some u->h'.get? b=some u)
  (ho:∀ b,H b=some (.own a)->H' b=some (.own a)) (ht:∀ b xs,H b=some (.tup xs)->H' b=some (.tup xs)):ObjOk P w H' h' a o:=by
 induction o with
 | lst xs=>obtain⟨z,its,n,r,e⟩:=x;exact⟨z,its,n,r,k _ _ (.inl rfl) e⟩
 | tup xs=>obtain⟨z,its,r,ob,e,c⟩:=x;exact⟨z,its,r,ob,k _ _ (.inl rfl) e,c⟩
 | dK kvs=>obtain⟨z,y,vs,r,ob,es,ep,e,c⟩:=x;exact⟨z,y,vs,r,ob,es,ep,k _ _ (.inl rfl) e,c⟩
 | dT kvs=>
  obtain⟨z,y,xs,r,ob,es,ep,e,c⟩:=x
  exact⟨z,y,xs,Paired.mapP r λ p q z=>⟨z.1,ht _ _ z.2.1,z.2.2⟩,ob,es,ep,k _ _ (.inl rfl) e,c⟩
 | set S n=>obtain⟨ob,es,ep,t,e,c⟩:=x;exact⟨ob,es,ep,t,k _ _ (.inl rfl) e,c⟩
 | ins C dx fs=>
  obtain⟨d,z,ne,e,mA,⟨od,es,ep,e2,c⟩,r⟩:=x
  exact⟨ho _ d,z,ne,k _ _ (.inl rfl) e,mA,⟨od,es,ep,k _ _ (.inr d) e2,c⟩,r⟩
 | own y=>obtain⟨ob,e⟩:=x;exact⟨ob,k _ _ (.inl rfl) e⟩
 | xd fs=>obtain⟨mA,⟨od,es,ep,e,c⟩,r⟩:=x;exact⟨mA,⟨od,es,ep,k _ _ (.inl rfl) e,c⟩,r⟩
 | rng lo hi=>obtain⟨t,u,v,e⟩:=x;exact⟨t,u,v,k _ _ (.inl rfl) e⟩
 | frz ob u ih=>obtain⟨e,q⟩:=x;exact⟨k _ _ (.inl rfl) e,ih q⟩
 | tbl ps=>
  have e:h.get? a=some { cls:=.none,data:=.fields ps }:=x
  show h'.get? a=some { cls:=.none,data:=.fields ps }
  exact k a _ (.inl rfl) e
 | met f y=>
  have e:h.get? a=some (PySem.W.methodObj (.ref f) (.ref y)):=x
  show h'.get? a=some (PySem.W.methodObj (.ref f) (.ref y))
  exact k a _ (.inl rfl) e
 | ext φ=>obtain⟨p,⟨o,e⟩,st⟩:=x;exact⟨st _ _ p λ o q=>k _ _ (.inl rfl) q,⟨o,k _ _ (.inl rfl) e⟩,st⟩
theorem HOk.lt (x:HOk P w H h)(e:H a=some o):a < h.objs.size:=(x a o e).lt
theorem HOk.fresh (x:HOk P w H h)(e:h.objs.size<=a):H a=none:=by
 cases q:H a with
 | none=>rfl
 | some u=>exact absurd (Nat.lt_of_lt_of_le (x.lt q) e) (Nat.lt_irrefl _)
theorem HOk.kept (x:HOk P w H h)(k:∀ b u,h.get? b=some u->h'.get? b=some u):HOk P w H h':=λ a o e=>
 (x a o e).stay (λ b u _ q=>k b u q) (λ _ q=>q) λ _ _ q=>q
theorem HOk.laid (x:HOk P w H h)(k:∀ b u,h.get? b=some u->h'.get? b=some u)(hp:h.objs.size<=a)(new:ObjOk P w (upd H a o) h' a o):HOk P w (upd H a o) h':=λ b u e=>by
 have hn:=x.fresh hp
 by_cases hb:b=a
 ·subst hb;rw[upd_same]at e;cases e;exact new
 ·rw[upd_ne hb]at e
  exact(x b u e).stay (λ c v _ q=>k c v q) (λ c q=>by rw[upd_ne (ne_of_none q hn)];exact q) λ c xs q=>by rw[upd_ne (ne_of_none q hn)];exact q
end
def Rd (H:Hp)(a:Addr)(u:HO):Prop:=H a=some u∨∃ o,H a=some (.frz o u)
theorem Rd.ok {P:Program}{w:World}{H:Hp}{h:Heap}{a:Addr}{u:HO}(r:Rd H a u)(x:HOk P w H h):ObjOk P w H h a u:=by
 rcases r with r|⟨o,r⟩
 ·exact x a u r
 ·obtain⟨_,q⟩:=x a _ r
  exact q
def Mut:Option HO->Prop
 | some (.lst _)=>True
 | some (.dK _)=>True
 | some (.dT _)=>True
 | some (.set _ _)=>True
 | some (.ins _ _ _)=>True
 | some (.ext _)=>True
 | _=>False
section
variable {P:Program}{w:World}{H:Hp}{h h':Heap}{x e:Addr}{o':HO}
theorem HOk.write (ok:HOk P w H h)(mu:Mut (H x)) (he:e=x∨H e=some (.own x)) (k:∀ b u,b≠e->h.get? b=some u->h'.get? b=some u)(heo:∃ u,h'.get? e=some u)
  (new:ObjOk P w (upd H x o') h' x o'):HOk P w (upd H x o') h':=λ b u q=>by
 have nown:∀ c y,H c=some (.own y)->c≠x:=λ c y r z=>by subst z;rw[r]at mu;exact mu
 have ntup:∀ c xs,H c=some (.tup xs)->c≠x:=λ c xs r z=>by subst z;rw[r]at mu;exact mu
 by_cases hb:b=x
 ·subst hb;rw[upd_same]at q;cases q;exact new
 ·rw[upd_ne hb]at q
  by_cases hbe:b=e
  ·have q':H b=some (.own x):=by
    rcases he with z|z
    ·exact absurd (hbe.trans z) hb
    ·rw[hbe];exact z
   rw[q]at q';cases q'
   obtain⟨v,hv⟩:=heo
   exact⟨v,by rw[hbe];exact hv⟩
  ·refine(ok b u q).stay (λ c v hc r=>k c v ?_ r) (λ c r=>by rw[upd_ne (nown c b r)];exact r) λ c xs r=>by rw[upd_ne (ntup c xs r)];exact r
   rcases hc with rfl|hc
   ·exact hbe
   ·rintro rfl
    rcases he with z|z
    ·exact nown c b hc z
    ·rw[hc]at z;cases z;exact hb rfl
end
structure Un (fs ex:List Addr)(H H':Hp)(h h':Heap):Prop where
 keep:∀ b o,h.get? b=some o->H b=none->b∉fs->b∉ex->h'.get? b=some o
 slot:∀ b o,h.get? b=some o->H b=none->b∈fs->b∉ex->∃ sl,h'.get? b=some { o with slots:=sl }
 free:∀ b o,h.get? b=some o->H b=none->b∉ex->H' b=none
 there:∀ b o,h.get? b=some o->b∉ex->∃ o',h'.get? b=some o'
 tups:∀ b xs,H b=some (.tup xs)->H' b=some (.tup xs)
 frzs:∀ b o u,H b=some (.frz o u)->H' b=some (.frz o u)
 tbls:∀ b ps,H b=some (.tbl ps)->∃ more,H' b=some (.tbl (ps++more))
section
variable {fs fs' ex ex':List Addr}{H H1 H2:Hp}{h h1 h2 h':Heap}{a x e:Addr}{o:HO}
theorem Un.any (u:Un fs ex H H1 h h1){b:Addr}{ob:Obj}(q:h.get? b=some ob)(n:H b=none)(hx:b∉ex):∃ sl,h1.get? b=some { ob with slots:=sl }:=by
 by_cases hb:b∈fs
 ·exact u.slot b ob q n hb hx
 ·exact⟨ob.slots,u.keep b ob q n hb hx⟩
theorem Un.kept (k:∀ b u,h.get? b=some u->h'.get? b=some u):Un fs ex H H h h':=
 ⟨λ b ob q _ _ _=>k b ob q,λ b ob q _ _ _=>⟨ob.slots,k b ob q⟩,λ _ _ _ n _=>n,λ b ob q _=>⟨ob,k b ob q⟩,λ _ _ q=>q,λ _ _ _ q=>q,λ _ ps q=>⟨#[],by rw[q];simp⟩⟩
theorem Un.refl:Un fs ex H H h h:=Un.kept λ _ _ q=>q
theorem Un.laid (k:∀ b u,h.get? b=some u->h'.get? b=some u)(hp:h.objs.size<=a)(hn:H a=none):Un fs ex H (upd H a o) h h' where
 keep:=λ b u q _ _ _=>k b u q
 slot:=λ b u q _ _ _=>⟨u.slots,k b u q⟩
 free:=λ b u q n _=>by rw[upd_ne (Nat.ne_of_lt (Nat.lt_of_lt_of_le (Heap.lt_size q) hp))];exact n
 there:=λ b u q _=>⟨u,k b u q⟩
 tups:=λ b xs q=>by rw[upd_ne (ne_of_none q hn)];exact q
 frzs:=λ b u xs q=>by rw[upd_ne (ne_of_none q hn)];exact q
 tbls:=λ b ps q=>⟨#[],by rw[upd_ne (ne_of_none q hn),q];simp⟩
theorem Un.write (mu:Mut (H x)) (he:e=x∨H e=some (.own x)) (k:∀ b u,b≠e->h.get? b=some u->h'.get? b=some u)(heo:∃ u,h'.get? e=some u):Un fs ex H (upd H x o) h h':=by
 have hx:∀ b,H b=none->b≠x:=λ b n z=>by subst z;rw[n]at mu;exact mu
 have hb:∀ b,H b=none->b≠e:=λ b n z=>by
  subst z
  rcases he with r|r
  ·exact hx b n r
  ·rw[n]at r;cases r
 have hm:∀ b u,H b=some u->¬ Mut (some u)->b≠x:=λ b u q nm z=>by subst z;rw[q]at mu;exact nm mu
 refine⟨λ b u q n _ _=>k b u (hb b n) q,λ b u q n _ _=>⟨u.slots,k b u (hb b n) q⟩,λ b u q n _=>by rw[upd_ne (hx b n)];exact n,λ b u q _=>?_,
  λ b xs q=>by rw[upd_ne (hm b _ q λ z=>z)];exact q,λ b u xs q=>by rw[upd_ne (hm b _ q λ z=>z)];exact q,λ b ps q=>⟨#[],by rw[upd_ne (hm b _ q λ z=>z),q];simp⟩⟩
 by_cases hbe:b=e
 ·subst hbe;exact heo
 ·exact⟨u,k b u hbe q⟩
end
def trk (h:Heap)(H:Hp):List Addr:=(List.range h.objs.size).filter λ a=>(H a).isSome
def hidT (h:Heap)(H:Hp):Heap:=PySem.W.hideAll h (trk h H)
theorem hidT_size (h:Heap)(H:Hp):(hidT h H).objs.size=h.objs.size:=PySem.W.hideAll_size _ _
theorem hidT_get {h:Heap}{H:Hp}{b:Addr}{o:Obj}(e:h.get? b=some o)(n:H b=none):(hidT h H).get? b=some o:=
 PySem.W.hideAll_get _ e λ hm=>by
  have q:(H b).isSome=true:=(List.mem_filter.mp hm).2
  rw[n]at q;simp at q
theorem of_hidT {h:Heap}{H:Hp}{b:Addr}{o:Obj}(e:(hidT h H).get? b=some o):h.get? b=some o/\H b=none:=by
 have e':h.get? b=some o:=PySem.W.of_hideAll (trk h H) e
 refine⟨e',?_⟩
 cases q:H b with
 | none=>rfl
 | some x=>
  have hm:b∈trk h H:=List.mem_filter.mpr ⟨List.mem_range.mpr (Heap.lt_size e'),by simp[q]⟩
  have z:(hidT h H).get? b=none:=PySem.W.hideAll_none (trk h H) hm
  rw[z]at e;cases e
end L2
namespace L2
open PySem PySem.Spec PyProof.Rows
structure Mod (K:PySem.W.Frag)(mg:Str->Option Value)(base:Heap):Prop where
 kin:K.In base
 glob:base.Ns mainGlobals mg
 blt:∃ mb,base.Ns builtinsNs mb/\∀ x:Str,x≠"__name__"->mb x=bootBuiltins x
 nolimit:base.NoLimit
 nodig:base.NoDigits
 bmain:∃ bm ob,mg "__builtins__"=some (.ref bm)/\bm≠builtinsNs/\base.get? bm=some ob/\ob.cls=.type "module"/\ob.dict=some builtinsNs/\ob.data=.plain
structure Cx where
 prog:Program
 w:World
 K:PySem.W.Frag
 mg:Str->Option Value
 base:Heap
 A:Around
 N:List Str
 s₀:Shared
 H₀:Hp
 env:Env
 outer:List Env
 stack:List Env
 ex:List Addr
 fn:Str->Bool
 calm:Bool
 pn:List (Addr × Obj)
 xe:Value->Shared->Prop
def frs (l:List Env):List Addr:=l.filterMap (·.frame)
abbrev Cx.fs (X:Cx):List Addr:=frs X.outer
def Vis (sc:Scope)(x:Str):Prop:=sc.names.lookup x=some .local∨sc.names.lookup x=some .cell∨sc.names.lookup x=some .free
def Loc (sc:Scope)(x:Str):Prop:=sc.names.lookup x=some .local∨sc.names.lookup x=some .cell
def Look (env:Env)(h:Heap)(m:Str->Option Value)(x:Str)(u:Value):Prop:=
 (env.kindOf x=some .local/\m x=some u)∨((env.kindOf x=some .cell∨env.kindOf x=some .free)/\∃ c,env.cells.lookup x=some c/\h.IsCell c (some u))
structure Cx.Ok (X:Cx):Prop where
 mod:Mod X.K X.mg X.base
 kind:X.env.scope.kind=.function
 glob:X.env.globals=mainGlobals
 blt:X.env.builtins=builtinsNs
 above:X.s₀.heap.objs.size<=X.env.locals
 inj:∀ x y c,X.env.cells.lookup x=some c->X.env.cells.lookup y=some c->x=y
 has:∀ x,(X.env.kindOf x=some .cell∨X.env.kindOf x=some .free)->∃ c,X.env.cells.lookup x=some c
 cab:∀ x c,X.fn x=true->X.env.cells.lookup x=some c->X.s₀.heap.objs.size<=c
 hd:X.calm=true->X.A.handled=none
 frames:X.A.frames=some X.stack
 stk:X.stack=X.outer∨(X.stack=X.env :: X.outer/\X.env.frame=some X.env.locals)
 exf:∀ b∈X.ex,b≠X.env.locals/\∀ x c,X.env.cells.lookup x=some c->c≠b
 bs:∀ b o,X.base.get? b=some o->X.s₀.heap.get? b=some o/\X.H₀ b=none
 bsz:X.base.objs.size<=X.s₀.heap.objs.size
 noex:∀ b o,X.base.get? b=some o->b∉X.ex
 exfs:∀ b∈X.ex,b∉X.fs
 funs:X.s₀.heap.FunFrames X.base X.outer
 frf:∀ b∈X.fs,X.H₀ b=none
structure Inv (X:Cx)(pins:List (Addr × Obj)) (σ:List (Option V)) (H:Hp)(s:Shared):Prop where
 ok:X.Ok
 os:s.os=X.s₀.os
 bare:AllBare s.gens
 base:Un X.fs X.ex X.H₀ H X.s₀.heap s.heap
 loc:∃ m,s.heap.Ns X.env.locals m/\∀ (i:Nat) (x:Str) (v:V),X.N[i]? = some x->σ[i]? = some (some v)->Vis X.env.scope x->∃ u,RelV v u/\Look X.env s.heap m x u
 cell:∀ x c,X.env.cells.lookup x=some c->∃ v,s.heap.IsCell c v
 free:H X.env.locals=none
 freeC:∀ x c,X.env.cells.lookup x=some c->H c=none
 pin:∀ p∈X.pn++pins,s.heap.get? p.1=some p.2/\H p.1=none/\p.1≠X.env.locals/\p.1∉X.fs/\∀ v,p.2.data≠.cell v
 hok:HOk X.prog X.w H s.heap
 len:σ.length=X.N.length
section
variable {X:Cx}{pins:List (Addr × Obj)}{σ:List (Option V)}{H H':Hp}{s:Shared}{h':Heap}
theorem Cx.Ok.nofr (ok:X.Ok){b:Addr}{o:Obj}(e:X.base.get? b=some o):b∉X.fs:=λ hb=>by
 have:=(ok.funs.mem hb).1
 rw[e]at this;cases this
theorem Inv.bs (I:Inv X pins σ H s):∀ b o,X.base.get? b=some o->s.heap.get? b=some o/\H b=none:=λ b o e=>
 ⟨I.base.keep b o (I.ok.bs b o e).1 (I.ok.bs b o e).2 (I.ok.nofr e) (I.ok.noex b o e),I.base.free b o (I.ok.bs b o e).1 (I.ok.bs b o e).2 (I.ok.noex b o e)⟩
theorem Inv.bk (I:Inv X pins σ H s):∀ b o,X.base.get? b=some o->s.heap.get? b=some o:=λ b o e=>(I.bs b o e).1
theorem Inv.mod (I:Inv X pins σ H s):Mod X.K X.mg X.base:=I.ok.mod
theorem Inv.kIn (I:Inv X pins σ H s):X.K.In s.heap:=I.ok.mod.kin.keeps I.bk
theorem Inv.lt (I:Inv X pins σ H s):X.env.locals < s.heap.objs.size:=let ⟨_,hn,_⟩:=I.loc;hn.lt
theorem Inv.sz (I:Inv X pins σ H s):X.s₀.heap.objs.size<=s.heap.objs.size:=Nat.le_trans I.ok.above (Nat.le_of_lt I.lt)
theorem Inv.nofs (I:Inv X pins σ H s){a:Addr}(h:s.heap.objs.size<=a):a∉X.fs:=λ hb=>by
 obtain⟨_,o,ho,_⟩:=I.ok.funs.mem hb
 exact absurd (Nat.lt_of_lt_of_le (Heap.lt_size ho) (Nat.le_trans I.sz h)) (Nat.lt_irrefl _)
theorem Inv.cne (I:Inv X pins σ H s):∀ x c,X.env.cells.lookup x=some c->c≠X.env.locals:=λ x c e z=>by
 obtain⟨v,o,ho,hd⟩:=I.cell x c e
 obtain⟨m,⟨o',es,ep,ho',hd',_⟩,_⟩:=I.loc
 rw[z,ho']at ho;cases ho;rw[hd']at hd;cases hd
theorem Inv.funs (I:Inv X pins σ H s):s.heap.FunFrames X.base X.outer:=by
 have all:∀ (l:List Env),(∀ b∈frs l,b∈X.fs)->X.s₀.heap.FunFrames X.base l->s.heap.FunFrames X.base l:=by
  intro l
  induction l with
  | nil=>intro _ _;trivial
  | cons env r ih=>
   intro hs hl
   obtain⟨hk,⟨L,o,hf,hn,ho,hd⟩,hr⟩:=hl
   have hL:L∈X.fs:=hs L (by unfold frs;rw[List.filterMap_cons,hf];exact List.mem_cons_self)
   obtain⟨sl,e⟩:=I.base.slot L o ho (I.ok.frf L hL) hL λ z=>I.ok.exfs L z hL
   exact⟨hk,⟨L,_,hf,hn,e,hd⟩,ih (λ b hb=>hs b (by unfold frs;rw[List.filterMap_cons,hf];exact List.mem_cons_of_mem _ hb)) hr⟩
 exact all X.outer (λ _ hb=>hb) I.ok.funs
theorem Inv.stack (I:Inv X pins σ H s):s.heap.FunFrames X.base X.stack:=by
 rcases I.ok.stk with e|⟨e,hf⟩
 ·rw[e];exact I.funs
 ·rw[e]
  obtain⟨m,hn,_⟩:=I.loc
  refine .cons (by rw[I.ok.kind];decide) hf hn ?_ I.funs
  exact Heap.get?_none_of_le (Nat.le_trans I.ok.bsz I.ok.above)
theorem Inv.stkSub (I:Inv X pins σ H s):∀ b∈frs X.stack,b∈X.env.locals :: X.fs:=λ b hb=>by
 rcases I.ok.stk with e|⟨e,hf⟩
 ·rw[e]at hb;exact List.mem_cons_of_mem _ hb
 ·rw[e]at hb
  unfold frs at hb
  rw[List.filterMap_cons,hf]at hb
  exact hb
theorem Inv.stkFree (I:Inv X pins σ H s):∀ b∈frs X.stack,H b=none:=λ b hb=>by
 rcases List.mem_cons.mp (I.stkSub b hb) with e|hb
 ·rw[e];exact I.free
 ·obtain⟨_,o,ho,_⟩:=I.ok.funs.mem hb
  exact I.base.free b o ho (I.ok.frf b hb) λ z=>I.ok.exfs b z hb
theorem Inv.step {g':Array GenState}{t':Nat}{d':Drawn}{ch:List Addr}(I:Inv X pins σ H s)
  (hch:∀ b∈ch,(b∈X.ex∨X.s₀.heap.objs.size<=b)/\b≠X.env.locals/\(∀ x c,X.env.cells.lookup x=some c->c≠b)/\∀ p∈X.pn++pins,p.1≠b)
  (keep:∀ b o,b≠X.env.locals->b∉X.fs->b∉ch->s.heap.get? b=some o->H b=none->h'.get? b=some o)
  (slot:∀ b o,b≠X.env.locals->b∈X.fs->b∉ch->s.heap.get? b=some o->H b=none->∃ sl,h'.get? b=some { o with slots:=sl }) (free:∀ b o,b∉ch->s.heap.get? b=some o->H b=none->H' b=none)
  (there:∀ b o,b∉ch->s.heap.get? b=some o->∃ o',h'.get? b=some o')
  (tups:∀ b xs,H b=some (.tup xs)->H' b=some (.tup xs)) (frzs:∀ b o u,H b=some (.frz o u)->H' b=some (.frz o u)) (tbls:∀ b ps,H b=some (.tbl ps)->∃ more,H' b=some (.tbl (ps++more)))
  (ns:∀ m,s.heap.Ns X.env.locals m->h'.Ns X.env.locals m) (hok:HOk X.prog X.w H' h') (hg:AllBare g') :
  Inv X pins σ H' { s with heap:=h',gens:=g',drawn:=d',toks:=t' }:=by
 have neL:∀ b o,X.s₀.heap.get? b=some o->b≠X.env.locals:=λ b o e=>Nat.ne_of_lt (Nat.lt_of_lt_of_le (Heap.lt_size e) I.ok.above)
 have neC:∀ b o,X.s₀.heap.get? b=some o->b∉X.ex->b∉ch:=λ b o e hx hb=>by
  rcases(hch b hb).1 with z|z
  ·exact hx z
  ·exact absurd (Nat.lt_of_lt_of_le (Heap.lt_size e) z) (Nat.lt_irrefl _)
 have cellK:∀ x c,X.env.cells.lookup x=some c->∀ v,s.heap.IsCell c v->h'.IsCell c v:=λ x c e v ⟨o,ho,hd⟩=>by
  have nch:c∉ch:=λ z=>(hch c z).2.2.1 x c e rfl
  by_cases hc:c∈X.fs
  ·obtain⟨sl,q⟩:=slot c o (I.cne x c e) hc nch ho (I.freeC x c e)
   exact⟨_,q,hd⟩
  ·exact⟨o,keep c o (I.cne x c e) hc nch ho (I.freeC x c e),hd⟩
 refine⟨I.ok,I.os,hg,⟨λ b o e n hb hx=>?_,λ b o e n hb hx=>?_,λ b o e n hx=>?_,λ b o e hx=>?_,λ b xs e=>tups b xs (I.base.tups b xs e),λ b o xs e=>frzs b o xs (I.base.frzs b o xs e),λ b ps e=>?_⟩,?_,λ x c e=>?_,?_,λ x c e=>?_,λ p hp=>?_,hok,I.len⟩
 ·exact keep b o (neL b o e) hb (neC b o e hx) (I.base.keep b o e n hb hx) (I.base.free b o e n hx)
 ·obtain⟨sl,e1⟩:=I.base.slot b o e n hb hx
  obtain⟨sl',e2⟩:=slot b _ (neL b o e) hb (neC b o e hx) e1 (I.base.free b o e n hx)
  exact⟨sl',e2⟩
 ·obtain⟨o',e1⟩:=I.base.there b o e hx
  exact free b o' (neC b o e hx) e1 (I.base.free b o e n hx)
 ·obtain⟨o',e1⟩:=I.base.there b o e hx
  exact there b o' (neC b o e hx) e1
 ·obtain⟨m1,e1⟩:=I.base.tbls b ps e
  obtain⟨m2,e2⟩:=tbls b _ e1
  exact⟨m1++m2,by rw[e2,Array.append_assoc]⟩
 ·obtain⟨m,hn,hl⟩:=I.loc
  refine⟨m,ns m hn,λ i x v e1 e2 e3=>?_⟩
  obtain⟨u,r,l⟩:=hl i x v e1 e2 e3
  refine⟨u,r,?_⟩
  rcases l with l|⟨k,c,e,z⟩
  ·exact .inl l
  ·exact .inr ⟨k,c,e,cellK x c e _ z⟩
 ·obtain⟨v,z⟩:=I.cell x c e
  exact⟨v,cellK x c e v z⟩
 ·obtain⟨m,⟨o,_,_,ho,_⟩,_⟩:=I.loc
  exact free _ o (λ z=>(hch _ z).2.1 rfl) ho I.free
 ·obtain⟨v,o,ho,hd⟩:=I.cell x c e
  exact free c o (λ z=>(hch c z).2.2.1 x c e rfl) ho (I.freeC x c e)
 ·obtain⟨e,n,ne,nf,d⟩:=I.pin p hp
  have nch:p.1∉ch:=λ z=>(hch p.1 z).2.2.2 p hp rfl
  exact⟨keep p.1 p.2 ne nf nch e n,free p.1 p.2 nch e n,ne,nf,d⟩
theorem Inv.un {t':Nat}(I:Inv X pins σ H s)(u:Un X.fs [] H H' s.heap h')(hok:HOk X.prog X.w H' h'):Inv X pins σ H' { s with heap:=h',toks:=t' }:=by
 obtain⟨m,⟨o,es,ep,ho,r⟩,_⟩:=id I.loc
 obtain⟨sl,hL⟩:=u.any ho I.free (by simp)
 exact I.step (g':=s.gens) (d':=s.drawn) (ch:=[]) (λ _ z=>nomatch z) (λ b o _ hb _ e n=>u.keep b o e n hb (by simp)) (λ b o _ hb _ e n=>u.slot b o e n hb (by simp)) (λ b o _ e n=>u.free b o e n (by simp)) (λ b o _ e=>u.there b o e (by simp)) u.tups u.frzs u.tbls (λ m' hm=>by
  obtain⟨o',es',ep',ho',r'⟩:=hm
  rw[ho]at ho';cases ho'
  exact⟨_,es',ep',hL,r'⟩) hok I.bare
theorem Inv.call {g':Array GenState}{t':Nat}{d':Drawn}{ch:List Addr}(I:Inv X pins σ H s)(u:Un (frs X.stack) ch H H' s.heap h') (hok:HOk X.prog X.w H' h')(hg:AllBare g')
  (hch:∀ b∈ch,(b∈X.ex∨X.s₀.heap.objs.size<=b)/\b≠X.env.locals/\(∀ x c,X.env.cells.lookup x=some c->c≠b)/\∀ p∈X.pn++pins,p.1≠b) :
  Inv X pins σ H' { s with heap:=h',gens:=g',drawn:=d',toks:=t' }:=by
 obtain⟨m,⟨o,es,ep,ho,r⟩,_⟩:=id I.loc
 obtain⟨sl,hL⟩:=u.any ho I.free λ z=>(hch _ z).2.1 rfl
 exact I.step (ch:=ch) hch (λ b o hL hb hc e n=>u.keep b o e n (λ z=>(List.mem_cons.mp (I.stkSub b z)).elim hL hb) hc) (λ b o _ _ hc e n=>u.any e n hc) (λ b o hc e n=>u.free b o e n hc) (λ b o hc e=>u.there b o e hc) u.tups u.frzs u.tbls (λ m' hm=>by
  obtain⟨o',es',ep',ho',r'⟩:=hm
  rw[ho]at ho';cases ho'
  exact⟨_,es',ep',hL,r'⟩) hok hg
theorem Inv.turned {t':Nat}{it:Addr}(I:Inv X pins σ H s)(k:∀ b o,b≠it->s.heap.get? b=some o->h'.get? b=some o)(hn:H it=none)(hL:it≠X.env.locals)
  (h1:it∈X.ex∨X.s₀.heap.objs.size<=it) (h2:∀ x c,X.env.cells.lookup x=some c->c≠it) (h3:∀ p∈X.pn++pins,p.1≠it):Inv X pins σ H { s with heap:=h',toks:=t' }:=by
 have nit:∀ b u,H b=some u->b≠it:=λ b u e z=>by rw[z,hn]at e;cases e
 refine I.step (g':=s.gens) (d':=s.drawn) (ch:=[it]) (λ b hb=>?_) (λ b o _ _ hc e _=>k b o (λ z=>hc (by simp[z])) e) (λ b o _ _ hc e _=>⟨o.slots,k b o (λ z=>hc (by simp[z])) e⟩) (λ _ _ _ _ n=>n)
  (λ b o hc e=>⟨o,k b o (λ z=>hc (by simp[z])) e⟩) (λ _ _ e=>e) (λ _ _ _ e=>e) (λ b ps e=>⟨#[],by rw[e];simp⟩) (λ m hm=>?_) (λ b u e=>?_) I.bare
 ·have e:b=it:=by simpa using hb
  subst e
  exact⟨h1,hL,h2,h3⟩
 ·obtain⟨o,es,ep,ho,r⟩:=hm
  exact⟨o,es,ep,k _ o (Ne.symm hL) ho,r⟩
 ·refine(I.hok b u e).stay (λ c v hc q=>k c v ?_ q) (λ _ q=>q) λ _ _ q=>q
  rcases hc with z|z
  ·rw[z];exact nit b u e
  ·exact nit c _ z
theorem Inv.tok (I:Inv X pins σ H s)(t:Nat):Inv X pins σ H { s with toks:=t }:=I.un (h':=s.heap) (t':=t) Un.refl I.hok
theorem Inv.kept {t':Nat}(I:Inv X pins σ H s)(k:∀ b u,s.heap.get? b=some u->h'.get? b=some u):Inv X pins σ H { s with heap:=h',toks:=t' }:=I.un (Un.kept k) (I.hok.kept k)
theorem Inv.laid {a:Addr}{o:HO}{t':Nat}(I:Inv X pins σ H s)(k:∀ b u,s.heap.get? b=some u->h'.get? b=some u)(hp:s.heap.objs.size<=a)(new:ObjOk X.prog X.w (upd H a o) h' a o) :
  Inv X pins σ (upd H a o) { s with heap:=h',toks:=t' }:=I.un (Un.laid k hp (I.hok.fresh hp)) (I.hok.laid k hp new)
theorem Inv.write {x e:Addr}{o:HO}{t':Nat}(I:Inv X pins σ H s)(mu:Mut (H x)) (he:e=x∨H e=some (.own x)) (k:∀ b u,b≠e->s.heap.get? b=some u->h'.get? b=some u)(heo:∃ u,h'.get? e=some u)
  (new:ObjOk X.prog X.w (upd H x o) h' x o):Inv X pins σ (upd H x o) { s with heap:=h',toks:=t' }:=I.un (Un.write mu he k heo) (I.hok.write mu he k heo new)
theorem Inv.pins_of {pins':List (Addr × Obj)}(I:Inv X pins σ H s)(h:∀ p∈pins',s.heap.get? p.1=some p.2/\H p.1=none/\p.1≠X.env.locals/\p.1∉X.fs/\∀ v,p.2.data≠.cell v):Inv X pins' σ H s:=
 ⟨I.ok,I.os,I.bare,I.base,I.loc,I.cell,I.free,I.freeC,λ p hp=>(List.mem_append.mp hp).elim (λ z=>I.pin p (List.mem_append_left _ z)) (h p),I.hok,I.len⟩
theorem nodup_ix {N:List Str}(hN:N.Nodup){i j:Nat}{x:Str}(a:N[i]? = some x)(b:N[j]? = some x):i=j:=by
 obtain⟨h1,e1⟩:=List.getElem?_eq_some_iff.mp a
 obtain⟨h2,e2⟩:=List.getElem?_eq_some_iff.mp b
 exact(List.getElem_inj hN).mp (e1.trans e2.symm)
theorem store_ok2 {M:Model}{A:Around}{E:Value->Shared->Prop}{i:Nat}{x:Str}{v:V}{u:Value}{Q:Unit->Shared->Prop}(I:Inv X pins σ H s)(hN:X.N.Nodup)(hi:X.N[i]? = some x)(hx:Loc X.env.scope x)(r:RelV v u)
  (h:∀ s',Inv X pins (σ.set i (some v)) H s'->(∃ a,Heap.SameBut a s.heap s'.heap/\(a=X.env.locals∨X.env.cells.lookup x=some a))->Q () s') (hf:X.fn x=true∨X.env.scope.names.lookup x=some .local:=by first|exact .inl rfl|exact .inr rfl|assumption):wpAny M A (storeName X.env x u) Q E s:=by
 obtain⟨m,hn,hl⟩:=id I.loc
 have hcls:(X.env.scope.kind == .class || (X.env.scope.kind == .module && X.env.locals != X.env.globals))=false:=by rw[I.ok.kind];rfl
 have hiσ:i < σ.length:=by rw[I.len];exact(List.getElem?_eq_some_iff.mp hi).1
 have cne:=I.cne
 have tracked:∀ {a:Addr}{h':Heap},(∃ o,s.heap.get? a=some o/\H a=none)->Heap.SameBut a s.heap h'->HOk X.prog X.w H h':=λ {a h'} ha hs b ob e=>by
  obtain⟨_,_,hfree⟩:=ha
  refine(I.hok b ob e).stay (λ c w' hc q=>(hs.2 c ?_).trans q) (λ _ q=>q) λ _ _ q=>q
  rintro rfl
  rcases hc with rfl|hc
  ·rw[hfree]at e;cases e
  ·rw[hfree]at hc;cases hc
 rcases hx with hk|hk
 ·refine wpAny_storeName_local hk hn (λ h' hn' hs=>?_) hcls
  obtain⟨oL,_,_,hoL,_⟩:=id hn
  refine h _ ⟨I.ok,I.os,I.bare,⟨λ b o e n hb hx=>?_,λ b o e n hb hx=>?_,I.base.free,λ b o e hx=>?_,I.base.tups,I.base.frzs,I.base.tbls⟩,⟨_,hn',λ j y v' e1 e2 e3=>?_⟩,λ y c e=>?_,I.free,I.freeC,λ p hp=>?_,tracked ⟨oL,hoL,I.free⟩ hs,by simpa using I.len⟩ ⟨_,hs,.inl rfl⟩
  ·exact(hs.2 b (Nat.ne_of_lt (Nat.lt_of_lt_of_le (Heap.lt_size e) I.ok.above))).trans (I.base.keep b o e n hb hx)
  ·obtain⟨sl,e1⟩:=I.base.slot b o e n hb hx
   exact⟨sl,(hs.2 b (Nat.ne_of_lt (Nat.lt_of_lt_of_le (Heap.lt_size e) I.ok.above))).trans e1⟩
  ·obtain⟨o',e1⟩:=I.base.there b o e hx
   exact⟨o',(hs.2 b (Nat.ne_of_lt (Nat.lt_of_lt_of_le (Heap.lt_size e) I.ok.above))).trans e1⟩
  ·by_cases hj:j=i
   ·subst hj
    rw[hi]at e1;cases e1
    rw[List.getElem?_set_self hiσ]at e2
    cases e2
    exact⟨u,r,.inl ⟨hk,by simp⟩⟩
   ·rw[List.getElem?_set_ne (Ne.symm hj)]at e2
    obtain⟨u',r',q⟩:=hl j y v' e1 e2 e3
    refine⟨u',r',?_⟩
    rcases q with⟨k,e⟩|⟨k,c,e,z⟩
    ·refine .inl ⟨k,?_⟩
     have:y≠x:=λ e=>hj (nodup_ix hN e1 (e ▸ hi))
     simp[this,e]
    ·exact .inr ⟨k,c,e,z.sameBut hs (cne y c e)⟩
  ·obtain⟨w',z⟩:=I.cell y c e
   exact⟨w',z.sameBut hs (cne y c e)⟩
  ·obtain⟨e,n,ne,nf,d⟩:=I.pin p hp
   exact⟨(hs.2 p.1 ne).trans e,n,ne,nf,d⟩
 ·have hfn:X.fn x=true:=by
   rcases hf with z|z
   ·exact z
   ·rw[z]at hk;cases hk
  obtain⟨c,hc⟩:=I.ok.has x (.inl hk)
  obtain⟨w',z⟩:=I.cell x c hc
  refine wpAny_storeName_cell I.ok.kind hk hc z (λ h' hc' hs=>?_)
  obtain⟨oc,hoc,hocd⟩:=id z
  refine h { s with heap:=h' } ⟨I.ok,I.os,I.bare,⟨λ b o e n hb hx=>?_,λ b o e n hb hx=>?_,I.base.free,λ b o e hx=>?_,I.base.tups,I.base.frzs,I.base.tbls⟩,⟨m,hn.sameBut hs (Ne.symm (cne x c hc)),λ j y v' e1 e2 e3=>?_⟩,λ y c' e=>?_,I.free,I.freeC,λ p hp=>?_,tracked ⟨oc,hoc,I.freeC x c hc⟩ hs,by simpa using I.len⟩ ⟨c,hs,.inr hc⟩
  ·exact(hs.2 b (Nat.ne_of_lt (Nat.lt_of_lt_of_le (Heap.lt_size e) (I.ok.cab x c hfn hc)))).trans (I.base.keep b o e n hb hx)
  ·obtain⟨sl,e1⟩:=I.base.slot b o e n hb hx
   exact⟨sl,(hs.2 b (Nat.ne_of_lt (Nat.lt_of_lt_of_le (Heap.lt_size e) (I.ok.cab x c hfn hc)))).trans e1⟩
  ·obtain⟨o',e1⟩:=I.base.there b o e hx
   exact⟨o',(hs.2 b (Nat.ne_of_lt (Nat.lt_of_lt_of_le (Heap.lt_size e) (I.ok.cab x c hfn hc)))).trans e1⟩
  ·by_cases hj:j=i
   ·subst hj
    rw[hi]at e1;cases e1
    rw[List.getElem?_set_self hiσ]at e2
    cases e2
    exact⟨u,r,.inr ⟨.inl hk,c,hc,hc'⟩⟩
   ·rw[List.getElem?_set_ne (Ne.symm hj)]at e2
    obtain⟨u',r',q⟩:=hl j y v' e1 e2 e3
    refine⟨u',r',?_⟩
    rcases q with q|⟨k,c',e,z'⟩
    ·exact .inl q
    ·refine .inr ⟨k,c',e,z'.sameBut hs ?_⟩
     rintro rfl
     exact hj (nodup_ix hN e1 (I.ok.inj _ _ _ e hc ▸ hi))
  ·by_cases hcc:c'=c
   ·subst hcc;exact⟨_,hc'⟩
   ·obtain⟨w2,z2⟩:=I.cell y c' e
    exact⟨w2,z2.sameBut hs hcc⟩
  ·obtain⟨e,n,ne,nf,d⟩:=I.pin p hp
   refine⟨(hs.2 p.1 ?_).trans e,n,ne,nf,d⟩
   intro q
   rw[q,hoc]at e
   have q':oc=p.2:=Option.some.inj e
   exact d w' (by rw[<-q'];exact hocd)
theorem store_ok {M:Model}{A:Around}{E:Value->Shared->Prop}{i:Nat}{x:Str}{v:V}{u:Value}{Q:Unit->Shared->Prop}(I:Inv X pins σ H s)(hN:X.N.Nodup)(hi:X.N[i]? = some x)(hx:Loc X.env.scope x)(r:RelV v u)
  (h:∀ s',Inv X pins (σ.set i (some v)) H s'->Q () s') (hf:X.fn x=true∨X.env.scope.names.lookup x=some .local:=by first|exact .inl rfl|exact .inr rfl|assumption):wpAny M A (storeName X.env x u) Q E s:=
 store_ok2 I hN hi hx r (λ s' I' _=>h s' I') hf
theorem Inv.call' {s':Shared}{ch:List Addr}(I:Inv X pins σ H s)(ho:s'.os=s.os)(u:Un (frs X.stack) ch H H' s.heap s'.heap) (hok:HOk X.prog X.w H' s'.heap)(hg:AllBare s'.gens)
  (hch:∀ b∈ch,(b∈X.ex∨X.s₀.heap.objs.size<=b)/\b≠X.env.locals/\(∀ x c,X.env.cells.lookup x=some c->c≠b)/\∀ p∈X.pn++pins,p.1≠b):Inv X pins σ H' s':=by
 obtain⟨h',g',d',t',o'⟩:=s'
 have e:o'=s.os:=ho
 subst e
 exact I.call (g':=g') (t':=t') (d':=d') u hok hg hch
end
abbrev XK:=Value->Option Addr->Hp->Prop
abbrev St:=List (Option V)
abbrev VK:=V->Hp->Prop
abbrev TE:=St->Hp->VK->Prop
abbrev TT:=St->Hp->(Bool->Hp->Prop)->Prop
abbrev TA:=St->Hp->(List V->Hp->Prop)->Prop
structure Ends where
 nx:St->Hp->Prop
 rt:VK
 bk:St->Hp->Prop:=λ _ _=>False
 ct:St->Hp->Prop:=λ _ _=>False
abbrev TS:=Ends->St->Hp->Prop
def EP (X:Cx)(pins:List (Addr × Obj)) (σ:St)(Q:VK)(u:Value)(s':Shared):Prop:=∃ v H',Inv X pins σ H' s'/\RelV v u/\Q v H'
def TP (X:Cx)(pins:List (Addr × Obj)) (σ:St)(Q:Bool->Hp->Prop)(b:Bool)(s':Shared):Prop:=∃ H',Inv X pins σ H' s'/\Q b H'
def AP (X:Cx)(pins:List (Addr × Obj)) (σ:St)(Q:List V->Hp->Prop)(us:List Value)(s':Shared):Prop:=∃ vs H',Inv X pins σ H' s'/\Vals vs us/\Q vs H'
def SP (X:Cx)(pins:List (Addr × Obj)) (D:Ends)(f:Flow)(s':Shared):Prop:=
 match f with
 | .next=>∃ σ' H',Inv X pins σ' H' s'/\D.nx σ' H'
 | .brk=>∃ σ' H',Inv X pins σ' H' s'/\D.bk σ' H'
 | .cont=>∃ σ' H',Inv X pins σ' H' s'/\D.ct σ' H'
 | .ret u=>∃ v σ' H',Inv X pins σ' H' s'/\RelV v u/\D.rt v H'
def PE (X:Cx)(e:Expr)(t:TE):Prop:=
 ∀ (pins:List (Addr × Obj)) (s:Shared) (σ:St) (H:Hp) (Q:VK),Inv X pins σ H s->t σ H Q->wpAny (model X.prog X.w) X.A (eval e X.env) (EP X pins σ Q) X.xe s
def PT (X:Cx)(e:Expr)(t:TT):Prop:=
 ∀ (pins:List (Addr × Obj)) (s:Shared) (σ:St) (H:Hp) (Q:Bool->Hp->Prop),Inv X pins σ H s->t σ H Q->wpAny (model X.prog X.w) X.A (isTrue e X.env (eval e X.env)) (TP X pins σ Q) X.xe s
def PW (X:Cx)(e:Expr)(t:TT):Prop:=
 ∀ (whole:Sem Value) (pins:List (Addr × Obj)) (s:Shared) (σ:St) (H:Hp) (Q:Bool->Hp->Prop),Inv X pins σ H s->t σ H Q->wpAny (model X.prog X.w) X.A (isTrue e X.env whole) (TP X pins σ Q) X.xe s
theorem PW.pt {X:Cx}{e:Expr}{t:TT}(h:PW X e t):PT X e t:=h _
def PA (X:Cx)(es:List Expr)(t:TA):Prop:=
 ∀ (pos:Pos) (pins:List (Addr × Obj)) (s:Shared) (σ:St) (H:Hp) (Q:List V->Hp->Prop),Inv X pins σ H s->t σ H Q->wpAny (model X.prog X.w) X.A (spliced (backTo pos (starEach es X.env))) (AP X pins σ Q) X.xe s
def PS (X:Cx)(st:Stmt)(t:TS):Prop:=
 ∀ (pins:List (Addr × Obj)) (s:Shared) (σ:St) (H:Hp) (D:Ends),Inv X pins σ H s->t D σ H->wpAny (model X.prog X.w) X.A (exec st X.env) (SP X pins D) X.xe s
def PSs (X:Cx)(st:List Stmt)(t:TS):Prop:=
 ∀ (pins:List (Addr × Obj)) (s:Shared) (σ:St) (H:Hp) (D:Ends),Inv X pins σ H s->t D σ H->wpAny (model X.prog X.w) X.A (execs st X.env) (SP X pins D) X.xe s
theorem thn {α:Type}{t:Sem α}{Q Q':α->Shared->Prop}{M:Model}{A:Around}{E:Value->Shared->Prop}{s:Shared}(h:wpAny M A t Q E s)(hQ:∀ a s,Q a s->Q' a s):wpAny M A t Q' E s:=wpAny_mono h hQ λ _ _ x=>x
end L2
namespace L2
open PySem PySem.Spec PyProof.Rows
section
variable {X:Cx}
theorem bin {a b:Expr}{ta tb:TE}(ha:PE X a ta)(hb:PE X b tb){pins:List (Addr × Obj)}{s:Shared}{σ:St}{H:Hp}{R:V->V->Hp->Prop}(I:Inv X pins σ H s)(h:ta σ H λ x H1=>tb σ H1 λ y H2=>R x y H2)
  {α:Type}{Q:α->Shared->Prop}{f:Value->Value->Sem α}
  (hf:∀ v u s2 x y H2,Inv X pins σ H2 s2->RelV x v->RelV y u->R x y H2->wpAny (model X.prog X.w) X.A (f v u) Q X.xe s2) :
  wpAny (model X.prog X.w) X.A (eval a X.env) (λ v s₁=>wpAny (model X.prog X.w) X.A (eval b X.env) (λ u s₂=>wpAny (model X.prog X.w) X.A (f v u) Q X.xe s₂) X.xe s₁) X.xe s:=by
 refine thn (ha pins s σ H _ I h) λ v s1 ⟨x,H1,I1,r1,q1⟩=>?_
 refine thn (hb pins s1 σ H1 _ I1 q1) λ u s2 ⟨y,H2,I2,r2,q2⟩=>?_
 exact hf v u s2 x y H2 I2 r1 r2 q2
def tVar (i:Nat):TE:=λ σ H Q=>∃ v,σ[i]? = some (some v)/\Q v H
def tC (v:V):TE:=λ _ H Q=>Q v H
theorem pe_var {i:Nat}{x:Str}{pos:Pos}(hN:X.N[i]? = some x)(hv:Vis X.env.scope x)(hd:(x == ("__debug__":Str))=false:=by decide) (hcd:(x == ("__classdict__":Str))=false:=by decide):PE X (.Name x pos) (tVar i):=by
 intro pins s σ H Q I h
 obtain⟨v,e,h⟩:=h
 obtain⟨m,hn,hl⟩:=I.loc
 obtain⟨u,r,l⟩:=hl i x v hN e hv
 have fin:EP X pins σ Q u s:=⟨v,H,I,r,h⟩
 rcases l with⟨hk,hm⟩|⟨hk,c,hc,hcell⟩
 ·exact wpAny_Name (wpAny_loadName_local I.ok.kind hk hn hm fin) hd
 ·rcases hk with hk|hk
  ·exact wpAny_Name (wpAny_loadName_cell I.ok.kind hk hc hcell fin) hd
  ·exact wpAny_Name (wpAny_loadName_free I.ok.kind hk hc hcell fin hcd) hd
theorem pe_int {i j pos}:PE X (.Constant (.int i) j pos) (tC (.int i)):=λ _ _ _ H _ I h=>wpAny_Constant_int ⟨.int i,H,I.tok _,⟨_,rfl⟩,h⟩
theorem pe_bl {b j pos}:PE X (.Constant (.bool b) j pos) (tC (.bl b)):=λ _ _ _ H _ I h=>Constant_bool ⟨.bl b,H,I,rfl,h⟩
theorem pe_non {j pos}:PE X (.Constant .none j pos) (tC .non):=λ _ _ _ H _ I h=>Constant_none ⟨.non,H,I,rfl,h⟩
theorem pe_str {x j pos}:PE X (.Constant (.str x) j pos) (tC (.str x)):=λ _ _ _ H _ I h=>Calls.Constant_str ⟨.str x,H,I.tok _,⟨_,rfl⟩,h⟩
def Gl (X:Cx)(x:Str):Prop:=X.env.kindOf x=some .globalImplicit
theorem ld_glob {E:Value->Shared->Prop}{pins:List (Addr × Obj)}{s:Shared}{σ:St}{H:Hp}{x:Str}{u:Value}{pos:Pos}{Q:Value->Shared->Prop}(I:Inv X pins σ H s)(hg:Gl X x)(hm:X.mg x=some u)(h:Q u s)
  (hd:(x == ("__debug__":Str))=false:=by decide):wpAny (model X.prog X.w) X.A (eval (.Name x pos) X.env) Q E s:=
 Calls.Name_function_global I.ok.kind hg (Calls.loadGlobal_global (by rw[I.ok.glob];exact I.mod.glob.keeps I.bk) hm h) hd
theorem ld_blt {E:Value->Shared->Prop}{pins:List (Addr × Obj)}{s:Shared}{σ:St}{H:Hp}{x:Str}{u:Value}{pos:Pos}{Q:Value->Shared->Prop}(I:Inv X pins σ H s)(hg:Gl X x)(hm:X.mg x=none)(hv:bootBuiltins x=some u)(h:Q u s)
  (hn:x≠"__name__":=by decide) (hd:(x == ("__debug__":Str))=false:=by decide):wpAny (model X.prog X.w) X.A (eval (.Name x pos) X.env) Q E s:=by
 obtain⟨mb,h1,h2⟩:=I.mod.blt
 exact Calls.Name_function_global I.ok.kind hg (Calls.loadGlobal_builtin (by rw[I.ok.glob];exact I.mod.glob.keeps I.bk) hm (by rw[I.ok.blt];exact h1.keeps I.bk) ((h2 x hn).trans hv) h) hd
theorem pe_glob {x:Str}{v:V}{u:Value}{pos:Pos}(hg:Gl X x)(hm:X.mg x=some u)(r:RelV v u)(hd:(x == ("__debug__":Str))=false:=by decide):PE X (.Name x pos) (tC v):=
 λ _ _ _ H _ I h=>ld_glob I hg hm ⟨v,H,I,r,h⟩ hd
theorem pe_bltn {x:Str}{v:V}{u:Value}{pos:Pos}(hg:Gl X x)(hm:X.mg x=none)(hv:bootBuiltins x=some u)(r:RelV v u)(hn:x≠"__name__":=by decide)(hd:(x == ("__debug__":Str))=false:=by decide):PE X (.Name x pos) (tC v):=
 λ _ _ _ H _ I h=>ld_blt I hg hm hv ⟨v,H,I,r,h⟩ hn hd
variable {a b:Expr}{ta tb:TE}{pos:Pos}
variable {tA tB':TT}{rest:List Expr}
def tAnd (t u:TT):TT:=λ σ H Q=>t σ H λ c H1=>if c=true then u σ H1 Q else Q false H1
def tOr (t u:TT):TT:=λ σ H Q=>t σ H λ c H1=>if c=true then Q true H1 else u σ H1 Q
def tNot (t:TT):TT:=λ σ H Q=>t σ H λ c H1=>Q (!c) H1
theorem pw_and1 (ha:PT X a tA):PW X (.BoolOp .And [a] pos) tA:=by
 intro wh pins s σ H Q I h
 refine isTrue_and (thn (ha pins s σ H Q I h) λ c s1 e=>?_)
 cases c with
 | true=>exact isTrue_and_nil e
 | false=>exact e
theorem pw_or1 (ha:PT X a tA):PW X (.BoolOp .Or [a] pos) tA:=by
 intro wh pins s σ H Q I h
 refine isTrue_or (thn (ha pins s σ H Q I h) λ c s1 e=>?_)
 cases c with
 | false=>exact isTrue_or_nil e
 | true=>exact e
theorem pw_and (ha:PT X a tA)(hb:PW X (.BoolOp .And (b :: rest) pos) tB'):PW X (.BoolOp .And (a :: b :: rest) pos) (tAnd tA tB'):=by
 intro wh pins s σ H Q I h
 refine isTrue_and (thn (ha pins s σ H _ I h) λ c s1 ⟨H1,I1,q1⟩=>?_)
 cases c with
 | true=>exact hb wh pins s1 σ H1 Q I1 q1
 | false=>exact⟨H1,I1,q1⟩
theorem pw_or (ha:PT X a tA)(hb:PW X (.BoolOp .Or (b :: rest) pos) tB'):PW X (.BoolOp .Or (a :: b :: rest) pos) (tOr tA tB'):=by
 intro wh pins s σ H Q I h
 refine isTrue_or (thn (ha pins s σ H _ I h) λ c s1 ⟨H1,I1,q1⟩=>?_)
 cases c with
 | true=>exact⟨H1,I1,q1⟩
 | false=>exact hb wh pins s1 σ H1 Q I1 q1
theorem pt_not (ha:PT X a tA):PT X (.UnaryOp .Not a pos) (tNot tA):=by
 intro pins s σ H Q I h
 exact isTrue_not (ha pins s σ H (λ c H1=>Q (!c) H1) I h)
def tAndV (ta tb:TE):TE:=λ σ H Q=>ta σ H λ x H1=>∃ c,x=.bl c/\if c=true then tb σ H1 Q else Q (.bl false) H1
def tNotV (ta:TE):TE:=λ σ H Q=>ta σ H λ x H1=>∃ c,x=.bl c/\Q (.bl (!c)) H1
theorem pe_one {op} {t:TE}(h:PE X a t):PE X (.BoolOp op [a] pos) t:=λ pins s σ H Q I hw=>BoolOp_one (h pins s σ H Q I hw)
theorem pe_and (ha:PE X a ta)(hb:PE X (.BoolOp .And (b :: rest) pos) tb):PE X (.BoolOp .And (a :: b :: rest) pos) (tAndV ta tb):=by
 intro pins s σ H Q I h
 refine BoolOp_and (thn (ha pins s σ H _ I h) λ v s1 ⟨x,H1,I1,r1,q1⟩=>?_)
 obtain⟨c,rfl,q1⟩:=q1
 cases r1
 refine wpAny_truthy_bool ?_
 cases c with
 | true=>exact hb pins s1 σ H1 Q I1 q1
 | false=>exact⟨.bl false,H1,I1,rfl,q1⟩
theorem pe_not (ha:PE X a ta):PE X (.UnaryOp .Not a pos) (tNotV ta):=by
 intro pins s σ H Q I h
 refine UnaryOp_ (thn (ha pins s σ H _ I h) λ v s1 ⟨x,H1,I1,r1,q1⟩=>?_)
 obtain⟨c,rfl,q1⟩:=q1
 cases r1
 exact not_of (wpAny_truthy_bool ⟨.bl (!c),H1,I1,rfl,q1⟩)
def tIf (t:TT)(ta tb:TE):TE:=λ σ H Q=>t σ H λ c H1=>if c=true then ta σ H1 Q else tb σ H1 Q
theorem pe_ifExp {c:Expr}(hc:PT X c tA)(ha:PE X a ta)(hb:PE X b tb):PE X (.IfExp c a b pos) (tIf tA ta tb):=by
 intro pins s σ H Q I h
 refine wpAny_IfExp (thn (hc pins s σ H _ I h) λ d s1 ⟨H1,I1,q1⟩=>?_)
 cases d with
 | true=>exact ha pins s1 σ H1 Q I1 q1
 | false=>exact hb pins s1 σ H1 Q I1 q1
end
end L2
namespace L2
open PySem PySem.Spec PyProof.Rows
def SqL (K:PySem.W.Frag)(H:Hp)(a:Addr)(xs:List V):Prop:=
 Rd H a (.lst xs)∨
  ∃ (o:Obj) (its:Array Value) (n:Nat),K.lookup a=some o/\o.cls=.type "list"/\o.dict=none/\o.data=.seq its n/\its.size<=sizeLine/\Vals xs its.toList
def SqT (K:PySem.W.Frag)(H:Hp)(a:Addr)(xs:List V):Prop:=
 Rd H a (.tup xs)∨
  ∃ (o:Obj) (its:Array Value) (n:Nat),K.lookup a=some o/\o.cls=.type "tuple"/\o.data=.seq its n/\its.size<=sizeLine/\Vals xs its.toList
def absV:Value->Option V
 | .none=>some .non
 | .bool b=>some (.bl b)
 | .int i _=>some (.int i)
 | .str x _=>some (.str x)
 | .bytes b _=>some (.byt b)
 | .float b _=>some (.flt b)
 | .ref a=>some (.ref a)
 | .type n=>some (.ty n)
 | _=>none
theorem RelV.abs {x:V}{u:Value}(r:RelV x u):absV u=some x:=by
 cases x with
 | non=>cases r;rfl
 | bl _=>cases r;rfl
 | int _=>obtain⟨t,rfl⟩:=r;rfl
 | str _=>obtain⟨t,rfl⟩:=r;rfl
 | byt _=>obtain⟨t,rfl⟩:=r;rfl
 | flt _=>obtain⟨t,rfl⟩:=r;rfl
 | ref _=>cases r;rfl
 | ty _=>cases r;rfl
theorem RelV.inj {x y:V}{u:Value}(r:RelV x u)(q:RelV y u):x=y:=Option.some.inj (r.abs.symm.trans q.abs)
theorem Vals.inj:∀ {xs ys:List V}{us:List Value},Vals xs us->Vals ys us->xs=ys
 | _,_,_,.nil,.nil=>rfl
 | _,_,_,.cons r t,.cons r' t'=>by rw[r.inj r',Vals.inj t t']
section
variable {X:Cx}{pins:List (Addr × Obj)}{σ:St}{H:Hp}{s:Shared}{a:Addr}{xs ys:List V}
theorem SqL.of {K:PySem.W.Frag}(h:H a=some (.lst xs)):SqL K H a xs:=.inl (.inl h)
theorem SqT.of {K:PySem.W.Frag}(h:H a=some (.tup xs)):SqT K H a xs:=.inl (.inl h)
theorem Inv.list (I:Inv X pins σ H s)(h:SqL X.K H a xs):∃ its:List Value,Vals xs its/\PlainL s.heap a its.toArray/\xs.length<=sizeLine:=by
 rcases h with h|⟨o,its,n,hk,hc,hd,hs,hz,r⟩
 ·obtain⟨z,its,n,r,e⟩:=h.ok I.hok
  exact⟨its,r,⟨_,n,e,rfl,rfl,rfl⟩,z⟩
 ·refine⟨its.toList,r,⟨o,n,I.kIn a o hk,hc,hd,by simpa using hs⟩,?_⟩
  have e:=r.length
  simp only[Array.length_toList]at e
  omega
theorem Inv.tuple (I:Inv X pins σ H s)(h:SqT X.K H a xs):∃ its:List Value,Vals xs its/\IsTup s.heap a its.toArray/\xs.length<=sizeLine:=by
 rcases h with h|⟨o,its,n,hk,hc,hs,hz,r⟩
 ·obtain⟨z,its,r,p⟩:=h.ok I.hok
  exact⟨its,r,p,z⟩
 ·refine⟨its.toList,r,⟨o,I.kIn a o hk,hc,n,by simpa using hs⟩,?_⟩
  have e:=r.length
  simp only[Array.length_toList]at e
  omega
theorem Inv.list_inj (I:Inv X pins σ H s)(h:SqL X.K H a xs)(h':SqL X.K H a ys):xs=ys:=by
 obtain⟨its,r,⟨o,n,e,_,_,d⟩,_⟩:=I.list h
 obtain⟨its',r',⟨o',n',e',_,_,d'⟩,_⟩:=I.list h'
 rw[e]at e';cases e'
 rw[d]at d'
 injection d' with d1 _
 have:its=its':=by simpa using congrArg Array.toList d1
 subst this
 exact r.inj r'
theorem Inv.tuple_inj (I:Inv X pins σ H s)(h:SqT X.K H a xs)(h':SqT X.K H a ys):xs=ys:=by
 obtain⟨its,r,⟨o,e,_,n,d⟩,_⟩:=I.tuple h
 obtain⟨its',r',⟨o',e',_,n',d'⟩,_⟩:=I.tuple h'
 rw[e]at e';cases e'
 rw[d]at d'
 injection d' with d1 _
 have:its=its':=by simpa using congrArg Array.toList d1
 subst this
 exact r.inj r'
end
abbrev Cx.wish (X:Cx)(E:Value->Shared->Prop):Cx:={ X with xe:=E }
abbrev Cx.nox (X:Cx):Cx:=X.wish λ _ _=>False
theorem Cx.Ok.wish {X:Cx}(ok:X.Ok)(E:Value->Shared->Prop):(X.wish E).Ok:=
 ⟨ok.mod,ok.kind,ok.glob,ok.blt,ok.above,ok.inj,ok.has,ok.cab,ok.hd,ok.frames,ok.stk,ok.exf,ok.bs,ok.bsz,ok.noex,ok.exfs,ok.funs,ok.frf⟩
theorem Cx.Ok.unwish {X:Cx}{E:Value->Shared->Prop}(ok:(X.wish E).Ok):X.Ok:=
 ⟨ok.mod,ok.kind,ok.glob,ok.blt,ok.above,ok.inj,ok.has,ok.cab,ok.hd,ok.frames,ok.stk,ok.exf,ok.bs,ok.bsz,ok.noex,ok.exfs,ok.funs,ok.frf⟩
section
variable {X:Cx}{pins:List (Addr × Obj)}{σ:St}{H:Hp}{s:Shared}{E:Value->Shared->Prop}
theorem Inv.wish (I:Inv X pins σ H s)(E:Value->Shared->Prop):Inv (X.wish E) pins σ H s:=⟨I.ok.wish E,I.os,I.bare,I.base,I.loc,I.cell,I.free,I.freeC,I.pin,I.hok,I.len⟩
theorem Inv.unwish (I:Inv (X.wish E) pins σ H s):Inv X pins σ H s:=⟨I.ok.unwish,I.os,I.bare,I.base,I.loc,I.cell,I.free,I.freeC,I.pin,I.hok,I.len⟩
theorem SP.unwish {D:Ends}{f:Flow}{s':Shared}(h:SP (X.wish E) pins D f s'):SP X pins D f s':=by
 cases f with
 | next=>obtain⟨σ',H',I,q⟩:=h;exact⟨σ',H',I.unwish,q⟩
 | brk=>obtain⟨σ',H',I,q⟩:=h;exact⟨σ',H',I.unwish,q⟩
 | cont=>obtain⟨σ',H',I,q⟩:=h;exact⟨σ',H',I.unwish,q⟩
 | ret u=>obtain⟨v,σ',H',I,r,q⟩:=h;exact⟨v,σ',H',I.unwish,r,q⟩
theorem PSs.nox {st:List Stmt}{t:TS}(h:PSs X.nox st t):PSs X st t:=λ pins s σ H D I hw=>
 wpAny_mono (h pins s σ H D (I.wish _) hw) (λ _ _ q=>q.unwish) λ _ _ z=>False.elim z
end
section
variable {X:Cx}{st:Stmt}{rest:List Stmt}{t u:TS}{e:Expr}{te:TE}{pos:Pos}
def tNext:TS:=λ D σ H=>D.nx σ H
def tSeq (t u:TS):TS:=λ D σ H=>t { D with nx:=u D } σ H
theorem pss_nil:PSs X [] tNext:=λ _ _ σ H _ I h=>wpAny_execs_nil ⟨σ,H,I,h⟩
theorem pss_cons (h1:PS X st t)(h2:PSs X rest u):PSs X (st :: rest) (tSeq t u):=by
 intro pins s σ H D I h
 refine wpAny_execs_cons (thn (h1 pins s σ H { D with nx:=u D } I h) λ f s1 q=>?_)
 cases f with
 | next=>
  obtain⟨σ',H',I',q⟩:=q
  exact h2 pins s1 σ' H' D I' q
 | ret v=>exact q
 | brk=>exact q
 | cont=>exact q
theorem pss_one (h1:PS X st t):PSs X [st] t:=by
 intro pins s σ H D I h
 refine wpAny_execs_cons (thn (h1 pins s σ H D I h) λ f s1 q=>?_)
 cases f with
 | next=>exact wpAny_execs_nil q
 | ret v=>exact q
 | brk=>exact q
 | cont=>exact q
theorem Inv.quiet {pins:List (Addr × Obj)}{σ:St}{H:Hp}{s:Shared}(I:Inv X pins σ H s):interactive X.env=false:=by simp[interactive,I.ok.kind]
def tDrop (te:TE):TS:=λ D σ H=>te σ H λ _ H1=>D.nx σ H1
theorem ps_expr (he:PE X e te)(hs:swapsWith e none pos.line X.env=pure false:=by rfl):PS X (.Expr e pos) (tDrop te):=by
 intro pins s σ H D I h
 exact wpAny_Expr_any (thn (he pins s σ H _ I h) λ v s1 ⟨x,H1,I1,r1,q1⟩=>⟨σ,H1,I1,q1⟩) I.quiet hs
def tRet (te:TE):TS:=λ D σ H=>te σ H D.rt
theorem ps_ret (he:PE X e te):PS X (.Return (some e) pos) (tRet te):=by
 intro pins s σ H D I h
 exact wpAny_Return_some (thn (he pins s σ H _ I h) λ v s1 ⟨x,H1,I1,r1,q1⟩=>⟨x,σ,H1,I1,r1,q1⟩)
def tIfS (c:TT)(t u:TS):TS:=λ D σ H=>c σ H λ b H1=>if b=true then t D σ H1 else u D σ H1
theorem ps_if {c:Expr}{a b:List Stmt}{tc:TT}(hc:PT X c tc)(ha:PSs X a t)(hb:PSs X b u):PS X (.If c a b pos) (tIfS tc t u):=by
 intro pins s σ H D I h
 refine wpAny_If (thn (hc pins s σ H _ I h) λ d s1 ⟨H1,I1,q1⟩=>?_)
 cases d with
 | true=>exact ha pins s1 σ H1 D I1 q1
 | false=>exact hb pins s1 σ H1 D I1 q1
end
abbrev TG:=V->St->Hp->(St->Hp->Prop)->Prop
abbrev TGs:=List V->St->Hp->(St->Hp->Prop)->Prop
def PG (X:Cx)(target:Expr)(t:TG):Prop:=
 ∀ (pins:List (Addr × Obj)) (s:Shared) (σ:St) (H:Hp) (v:V) (u:Value) (Q:St->Hp->Prop),Inv X pins σ H s->RelV v u->t v σ H Q->
  wpAny (model X.prog X.w) X.A (assign target X.env u) (λ _ s'=>∃ σ' H',Inv X pins σ' H' s'/\Q σ' H') X.xe s
def PGs (X:Cx)(ts:List Expr)(t:TGs):Prop:=
 ∀ (pins:List (Addr × Obj)) (s:Shared) (σ:St) (H:Hp) (vs:List V) (us:List Value) (Q:St->Hp->Prop),Inv X pins σ H s->Vals vs us->t vs σ H Q->
  wpAny (model X.prog X.w) X.A (assignInOrder ((assignEach ts X.env).map (·.2)) us) (λ _ s'=>∃ σ' H',Inv X pins σ' H' s'/\Q σ' H') X.xe s
abbrev TSet:=V->V->V->Hp->(Hp->Prop)->Prop
def PSet (X:Cx)(t:TSet):Prop:=
 ∀ (pins:List (Addr × Obj)) (s:Shared) (σ:St) (H:Hp) (o i v:V) (ov iv u:Value) (Q:Hp->Prop),Inv X pins σ H s->RelV o ov->RelV i iv->RelV v u->t o i v H Q->
  wpAny (model X.prog X.w) X.A (setItem ov iv u) (λ _ s'=>∃ H',Inv X pins σ H' s'/\Q H') X.xe s
section
variable {X:Cx}{pos:Pos}
def gName (i:Nat):TG:=λ v σ H Q=>Q (σ.set i (some v)) H
theorem pg_name {i:Nat}{x:Str}(hN:X.N.Nodup)(hi:X.N[i]? = some x)(hx:Loc X.env.scope x)(hf:X.fn x=true∨X.env.scope.names.lookup x=some .local:=by first|exact .inl rfl|exact .inr rfl|assumption):PG X (.Name x pos) (gName i):=by
 intro pins s σ H v u Q I r h
 exact wpAny_assign_Name (store_ok I hN hi hx r (λ s' I'=>⟨_,H,I',h⟩) hf)
def gNil:TGs:=λ vs σ H Q=>vs=[]/\Q σ H
def gCons (t:TG)(u:TGs):TGs:=λ vs σ H Q=>∃ v r,vs=v :: r/\t v σ H λ σ' H'=>u r σ' H' Q
theorem pgs_nil:PGs X [] gNil:=by
 intro pins s σ H vs us Q I r h
 obtain⟨e,h⟩:=h
 subst e
 cases r
 exact assignInOrder_nil ⟨σ,H,I,h⟩
theorem pgs_cons {e:Expr}{es:List Expr}{t:TG}{u:TGs}(h1:PG X e t)(h2:PGs X es u)
  (hs:(assignEach (e :: es) X.env).map (·.2)=assign e X.env :: (assignEach es X.env).map (·.2):=by rfl):PGs X (e :: es) (gCons t u):=by
 intro pins s σ H vs us Q I r h
 obtain⟨v,vr,e1,h⟩:=h
 subst e1
 cases r with
 | cons r rr=>
  rw[hs]
  refine assignInOrder_cons (thn (h1 pins s σ H _ _ _ I r h) λ _ s1 ⟨σ1,H1,I1,q1⟩=>?_)
  exact h2 pins s1 σ1 H1 _ _ Q I1 rr q1
def gTup (K:PySem.W.Frag)(n:Nat)(t:TGs):TG:=λ v σ H Q=>∃ a xs,v=.ref a/\SqT K H a xs/\xs.length=n/\t xs σ H Q
theorem pg_tup {es:List Expr}{k:Nat}{t:TGs}{n:Nat}(hc:X.calm=true)(h:PGs X es t)
  (hn:(assignEach es X.env).length=n:=by rfl) (hst:(assignEach es X.env).findIdx? (·.1)=none:=by rfl):PG X (.Tuple es k pos) (gTup X.K n t):=by
 intro pins s σ H v u Q I r hw
 obtain⟨a,xs,e1,hq,hl,hw⟩:=hw
 subst e1
 cases r
 obtain⟨its,rv,ht,hz⟩:=I.tuple hq
 refine assign_Tuple_tuple (I.ok.hd hc) ht (by simp[hn,<-hl,rv.length]) hst λ h' hx=>?_
 have I1:Inv X pins σ H { s with heap:=h' }:=I.kept (t':=s.toks) λ b o e=>hx b o (Nat.ne_of_lt (Heap.lt_size e)) e
 exact h pins _ σ H xs _ Q I1 (by simpa using rv) hw
def gSub (to ti:TE)(t:TSet):TG:=λ v σ H Q=>to σ H λ o H1=>ti σ H1 λ i H2=>t o i v H2 λ H3=>Q σ H3
theorem pg_sub {o i:Expr}{to ti:TE}{t:TSet}(ho:PE X o to)(hi:PE X i ti)(hs:PSet X t)
  (ha:∀ v,assign (.Subscript o i pos) X.env v=(do
   let ov <-holding [v] (eval o X.env)
   let iv <-holding [v,ov] (eval i X.env)
   standAt pos
   holding [v,ov,iv] (setItem ov iv v)
   release [v,ov,iv] []):=by intro _;rfl):PG X (.Subscript o i pos) (gSub to ti t):=by
 intro pins s σ H v u Q I r h
 rw[ha]
 refine wpAny_bind (wpAny_holding (thn (ho pins s σ H _ I h) λ ov s1 ⟨x,H1,I1,r1,q1⟩=>?_))
 refine wpAny_bind (wpAny_holding (thn (hi pins s1 σ H1 _ I1 q1) λ iv s2 ⟨y,H2,I2,r2,q2⟩=>?_))
 refine wpAny_bind (wpAny_standAt (wpAny_bind (wpAny_holding (thn (hs pins s2 σ H2 x y v ov iv u _ I2 r1 r2 r q2) λ _ s3 ⟨H3,I3,q3⟩=>?_))))
 exact wpAny_release ⟨σ,H3,I3,q3⟩
def tAsg (te:TE)(g:TG):TS:=λ D σ H=>te σ H λ x H1=>g x σ H1 D.nx
theorem ps_asg {tg e:Expr}{te:TE}{g:TG}(he:PE X e te)(hg:PG X tg g)(hs:swapsWithSole [tg] e pos.line X.env=pure false:=by rfl)(hw:swappedStores [tg] e X.env=pure none:=by rfl)
  (h1:(assignEach [tg] X.env).map (·.2)=[assign tg X.env]:=by rfl):PS X (.Assign [tg] e pos) (tAsg te g):=by
 intro pins s σ H D I h
 refine wpAny_Assign_stores (thn (he pins s σ H _ I h) λ v s1 ⟨x,H1,I1,r1,q1⟩=>?_) hs hw
 rw[h1]
 exact thn (hg pins s1 σ H1 x v _ I1 r1 q1) λ _ s2 q=>q
theorem ps_set {i:Nat}{x:Str}{e:Expr}{te:TE}{pos':Pos}(hN:X.N.Nodup)(hi:X.N[i]? = some x)(hx:Loc X.env.scope x)(he:PE X e te)(hs:swapsWith e (some (.Name x pos')) pos.line X.env=pure false:=by rfl) (hf:X.fn x=true∨X.env.scope.names.lookup x=some .local:=by first|exact .inl rfl|exact .inr rfl|assumption) :
  PS X (.Assign [.Name x pos'] e pos) (tAsg te (gName i)):=by
 intro pins s σ H D I h
 refine wpAny_Assign_Name (thn (he pins s σ H _ I h) λ v s1 ⟨y,H1,I1,r1,q1⟩=>?_) hs
 exact store_ok I1 hN hi hx r1 (λ s2 I2=>⟨_,H1,I2,q1⟩) hf
def tPar (i j:Nat)(ta:TA):TS:=λ D σ H=>ta σ H λ vs H1=>∃ v w,vs=[v,w]/\D.nx ((σ.set i (some v)).set j (some w)) H1
theorem ps_par {i j:Nat}{x y:Str}{a b:Expr}{ta:TA}{px py pt:Pos}{kt k2 pt2} (hc:X.calm=true)(hN:X.N.Nodup)(hi:X.N[i]? = some x)(hj:X.N[j]? = some y)(hij:i≠j)
  (hx:X.env.scope.names.lookup x=some .local) (hy:X.env.scope.names.lookup y=some .local) (ha:PA X [a,b] ta)
  (hw:swappedStores [.Tuple [.Name x px,.Name y py] kt pt] (.Tuple [a,b] k2 pt2) X.env=pure (some [x,y]))
  (hs:swapsWithSole [.Tuple [.Name x px,.Name y py] kt pt] (.Tuple [a,b] k2 pt2) pos.line X.env=pure false:=by rfl) :
  PS X (.Assign [.Tuple [.Name x px,.Name y py] kt pt] (.Tuple [a,b] k2 pt2) pos) (tPar i j ta):=by
 intro pins s σ H D I h
 rw[exec_Assign_arm]
 refine wpAny_bind (wpAny_standAt ?_)
 rw[hs]
 refine wpAny_bind (wpAny_pure ?_)
 rw[if_neg (by decide)]
 refine wpAny_bind (Tuple_ (thn (ha _ pins s σ H _ I h) λ us s1 ⟨vs,H1,I1,r1,q1⟩=>?_))
 obtain⟨v,w,e1,q1⟩:=q1
 subst e1
 obtain⟨u1,u2,rfl,rv,rw'⟩:∃ u1 u2,us=[u1,u2]/\RelV v u1/\RelV w u2:=by
  cases r1 with
  | cons p q=>
   cases q with
   | cons p' q'=>
    cases q'
    exact⟨_,_,rfl,p,p'⟩
 refine wpAny_newObj_type ?_ (by show 2<=sizeLine;decide)
 have I2:Inv X pins σ H1 { s1 with heap:=s1.heap.push { cls:=.type "tuple",data:=.seq [u1,u2].toArray } }:=I1.kept (t':=s1.toks) λ b o e=>Heap.get?_push_of_some _ e
 rw[hw]
 refine wpAny_bind (wpAny_pure ?_)
 show wpAny (model X.prog X.w) X.A (do rule "assign.swapped-stores";let items <-unpackItems (.ref s1.heap.objs.size) 2 none;assignInOrder [λ v=>bindName X.env y v,λ v=>bindName X.env x v] items.reverse;pure Flow.next) _ _ _
 refine wpAny_bind (wpAny_rule (wpAny_bind (unpackItems_tuple (items:=#[u1,u2]) (I.ok.hd hc) (IsTup.new s1.heap _) λ h' hx'=>?_)))
 have I3:=I2.kept (h':=h') (t':=s1.toks) λ b o e=>hx' b o (Nat.ne_of_lt (Heap.lt_size e)) e
 show wpAny _ _ (assignInOrder [λ v=>bindName X.env y v,λ v=>bindName X.env x v] [u2,u1] >>= λ _=>pure Flow.next) _ _ _
 refine wpAny_bind (assignInOrder_cons (wpAny_bindName (store_ok I3 hN hj (.inl hy) rw' (λ s2 I4=>?_) (.inr hy))))
 refine assignInOrder_cons (wpAny_bindName (store_ok I4 hN hi (.inl hx) rv (λ s3 I5=>assignInOrder_nil (wpAny_pure ?_)) (.inr hx)))
 rw[List.set_comm _ _ (Ne.symm hij)]at I5
 exact⟨_,H1,I5,q1⟩
end
section
variable {X:Cx}{pos:Pos}
def tWhile (c:TT)(tb:TS):TS:=λ D σ H=>∃ W:Nat->St->Hp->Prop,(∃ m,W m σ H)/\∀ m σ H,W m σ H->
 c σ H λ b H1=>if b=true then ∃ N:St->Hp->Prop,(∀ σ' H',N σ' H'->∃ m',m' < m/\W m' σ' H')/\tb { D with nx:=N,ct:=N,bk:=D.nx } σ H1 else D.nx σ H1
theorem ps_while {c:Expr}{body:List Stmt}{tc:TT}{tb:TS}(hp:PassesOwn (model X.prog X.w) X.A X.env X.xe) (hc:PT X c tc)(hb:PSs X body tb):PS X (.While c body [] pos) (tWhile tc tb):=by
 intro pins s σ H D I h
 obtain⟨W,⟨m0,w0⟩,turn⟩:=h
 refine wpAny_While (codeAny_whileLoop (λ n s'=>∃ σ' H',Inv X pins σ' H' s'/\W n σ' H') ?_ m0 ⟨σ,H,I,w0⟩)
 rintro n s1 ⟨σ1,H1,I1,w1⟩
 refine wpAny_passesOwn hp (thn (hc pins s1 σ1 H1 _ I1 (turn n σ1 H1 w1)) λ b s2 ⟨H2,I2,q2⟩=>?_)
 cases b with
 | true=>
  obtain⟨N,hN,q2⟩:=q2
  rw[if_pos rfl]
  refine wpAny_passesOwn hp (thn (hb pins s2 σ1 H2 _ I2 q2) λ f s3 q3=>?_)
  cases f with
  | next=>
   obtain⟨σ3,H3,I3,n3⟩:=q3
   obtain⟨m',hm,w3⟩:=hN σ3 H3 n3
   exact⟨m',hm,σ3,H3,I3,w3⟩
  | cont=>
   obtain⟨σ3,H3,I3,n3⟩:=q3
   obtain⟨m',hm,w3⟩:=hN σ3 H3 n3
   exact⟨m',hm,σ3,H3,I3,w3⟩
  | brk=>exact q3
  | ret v=>exact q3
 | false=>
  rw[if_neg Bool.false_ne_true]
  exact wpAny_execs_nil ⟨σ1,H2,I2,q2⟩
end
structure It where
 go:Nat->Hp->Prop
 yld:Nat->Hp->V->Hp->Prop
 stop:Nat->Hp->Prop
def FpOk (X:Cx)(pins:List (Addr × Obj)) (H:Hp)(b:Addr):Prop:=
 H b=none/\b≠X.env.locals/\b∉X.fs/\(b∈X.ex∨X.s₀.heap.objs.size<=b)/\(∀ x c,X.env.cells.lookup x=some c->c≠b)/\∀ p∈X.pn++pins,p.1≠b
theorem Inv.fpOk {X:Cx}{pins:List (Addr × Obj)}{σ:St}{H H':Hp}{s:Shared}{b:Addr}(I:Inv X pins σ H s)(hb:s.heap.objs.size<=b)(hn:H' b=none):FpOk X pins H' b:=by
 refine⟨hn,Nat.ne_of_gt (Nat.lt_of_lt_of_le I.lt hb),I.nofs hb,.inr (Nat.le_trans I.sz hb),λ x c e z=>?_,λ p hp z=>?_⟩
 ·obtain⟨v,q⟩:=I.cell x c e
  exact absurd (Nat.lt_of_lt_of_le q.lt (by rw[z];exact hb)) (Nat.lt_irrefl _)
 ·exact absurd (Nat.lt_of_lt_of_le (Heap.lt_size (I.pin p hp).1) (by rw[z];exact hb)) (Nat.lt_irrefl _)
structure Turn (P:Program)(w:World)(K:PySem.W.Frag)(tg:Expr)(J:It)(fp:List Addr)(it:Addr)(tn:Nat->Heap->Prop):Prop where
 mem:it∈fp
 obj:∀ i h,tn i h->∀ b∈fp,∃ o,h.get? b=some o/\∀ v,o.data≠.cell v
 keep:∀ i h h',tn i h->(∀ b∈fp,∀ o,h.get? b=some o->h'.get? b=some o)->tn i h'
 item:∀ (X:Cx),X.prog=P->X.w=w->X.K=K->X.calm=true->∀ (i:Nat) (pins:List (Addr × Obj)) (s:Shared) (σ:St) (H:Hp) (E:Value->Shared->Prop),Inv X pins σ H s->(∀ b∈fp,FpOk X pins H b)->tn i s.heap->J.go i H->
  wpAny (model P w) X.A (pyNext (.ref it)) (λ r s1=>∃ u,r=some u/\
   wpAny (model P w) X.A (letOwnedTupleGo tg (.ref it) u) (λ _ s2=>∃ x H',Inv X pins σ H' s2/\RelV x u/\J.yld i H x H'/\tn (i+1) s2.heap/\∀ b∈fp,H' b=none) E s1) E s
 done:∀ (X:Cx),X.prog=P->X.w=w->X.K=K->X.calm=true->∀ (i:Nat) (pins:List (Addr × Obj)) (s:Shared) (σ:St) (H:Hp) (E:Value->Shared->Prop),Inv X pins σ H s->(∀ b∈fp,FpOk X pins H b)->tn i s.heap->J.stop i H->
  wpAny (model P w) X.A (pyNext (.ref it)) (λ r s1=>r=none/\Inv X pins σ H s1) E s
 self:∀ (A:Around) (i:Nat) (s:Shared) (Q:Value->Shared->Prop) (E:Value->Shared->Prop),tn i s.heap->Q (.ref it) s->wpAny (model P w) A (pyIter (.ref it)) Q E s
abbrev TI:=St->Hp->(It->Hp->Prop)->Prop
def PIE (X:Cx)(pins:List (Addr × Obj)) (σ:St)(tg:Expr)(R:It->Hp->Prop)(itv:Value)(s2:Shared):Prop:=
 ∃ (it:Addr) (fp:List Addr) (tn:Nat->Heap->Prop) (J:It) (H':Hp),itv=.ref it/\Inv X pins σ H' s2/\Turn X.prog X.w X.K tg J fp it tn/\tn 0 s2.heap/\(∀ b∈fp,FpOk X pins H' b)/\R J H'
def PI (X:Cx)(tg iter:Expr)(wi:TI):Prop:=
 ∀ (pins:List (Addr × Obj)) (s:Shared) (σ:St) (H:Hp) (R:It->Hp->Prop),Inv X pins σ H s->wi σ H R->
  wpAny (model X.prog X.w) X.A (eval iter X.env) (λ v s1=>wpAny (model X.prog X.w) X.A (pyIter v) (PIE X pins σ tg R) X.xe s1) X.xe s
theorem go_of {M:Model}{A:Around}{E:Value->Shared->Prop}{s:Shared}{tg:Expr}{it:Addr}{u:Value}{o:Obj}{n:String}{vs:Array Value}{Q:Unit->Shared->Prop}(ho:s.heap.get? it=some o)(hc:o.cls=.type n)(hd:o.data=.fields vs)
    (hn:["enumerate","zip","dict_itemiterator","dict_reverseitemiterator","odict_iterator","itertools.zip_longest","itertools.pairwise"].contains n=false) (hQ:Q () s):wpAny M A (letOwnedTupleGo tg (.ref it) u) Q E s:=by
  unfold letOwnedTupleGo
  cases tg<;>first
    | exact wpAny_pure hQ
    | (cases u<;>first
        | exact wpAny_pure hQ
        | (refine wpAny_bind (wpAny_load ho ?_)
           rw[hc,hd]
           show wpAny M A (if (["enumerate","zip","dict_itemiterator","dict_reverseitemiterator","odict_iterator","itertools.zip_longest","itertools.pairwise"].contains n && vs[0]? == some (rawInt _))=true then _ else _) Q E s
           rw[if_neg (by intro h;rw[hn,Bool.false_and]at h;cases h)]
           exact wpAny_pure hQ))
def Itl (K:PySem.W.Frag)(a:Addr):It:=
 ⟨λ i H=>∃ xs x,SqL K H a xs/\xs[i]? = some x,λ i H x H'=>H'=H/\∀ xs,SqL K H a xs->xs[i]? = some x,λ i H=>∃ xs,SqL K H a xs/\xs.length<=i⟩
def Itt (K:PySem.W.Frag)(a:Addr):It:=
 ⟨λ i H=>∃ xs x,SqT K H a xs/\xs[i]? = some x,λ i H x H'=>H'=H/\∀ xs,SqT K H a xs->xs[i]? = some x,λ i H=>∃ xs,SqT K H a xs/\xs.length<=i⟩
def Itr (lo:Int)(n:Nat):It:=⟨λ i _=>i < n,λ i H x H'=>H'=H/\x=.int (lo+i),λ i _=>n<=i⟩
theorem turn_list {P:Program}{w:World}{K:PySem.W.Frag}{tg:Expr}(a it:Addr):Turn P w K tg (Itl K a) [it] it (λ i h=>h.IsListIter it a i) where
 mem:=by simp
 obj:=λ i h st b hb=>by
  have e:b=it:=by simpa using hb
  subst e
  obtain⟨o,e,c,d⟩:=st
  exact⟨o,e,λ v z=>by rw[d]at z;cases z⟩
 keep:=λ i h h' st k=>st.at λ o e=>k it (by simp) o e
 item:=by
  intro X hP hw hK hc i pins s σ H E I hf st hg
  subst hP hw hK
  obtain⟨xs,x,hq,hx⟩:=hg
  obtain⟨its,rv,p,hz⟩:=I.list hq
  obtain⟨u,hu,ru⟩:=rv.get hx
  obtain⟨f0,f1,f2,f3,f4,f5⟩:=hf it (by simp)
  refine wpAny_pyNext_list_item st p.isList (x:=u) (by simpa using hu) λ h' st' sb=>?_
  have I1:Inv X pins σ H { s with heap:=h' }:=I.turned (t':=s.toks) (λ b o hb e=>(sb.2 b hb).trans e) f0 f1 f3 f4 f5
  obtain⟨o,e,c,d⟩:=id st'
  exact⟨u,rfl,go_of (s:={ s with heap:=h' }) e c d (by decide) ⟨x,H,I1,ru,⟨rfl,λ ys hy=>by rw[I.list_inj hy hq];exact hx⟩,st',λ b hb=>(hf b hb).1⟩⟩
 done:=by
  intro X hP hw hK hc i pins s σ H E I hf st hg
  subst hP hw hK
  obtain⟨xs,hq,hx⟩:=hg
  obtain⟨its,rv,p,hz⟩:=I.list hq
  obtain⟨f0,f1,f2,f3,f4,f5⟩:=hf it (by simp)
  have hl:=rv.length
  exact wpAny_pyNext_list_end (I.ok.hd hc) st p.isList (by simp;omega) λ h' eb=>⟨rfl,I.turned (t':=s.toks) (λ b o hb e=>eb b o hb e) f0 f1 f3 f4 f5⟩
 self:=λ _ _ _ _ _ st h=>wpAny_pyIter_listiter st h
theorem turn_tuple {P:Program}{w:World}{K:PySem.W.Frag}{tg:Expr}(a it:Addr):Turn P w K tg (Itt K a) [it] it (λ i h=>h.IsTupleIter it a i) where
 mem:=by simp
 obj:=λ i h st b hb=>by
  have e:b=it:=by simpa using hb
  subst e
  obtain⟨o,e,c,d⟩:=st
  exact⟨o,e,λ v z=>by rw[d]at z;cases z⟩
 keep:=λ i h h' st k=>st.at λ o e=>k it (by simp) o e
 item:=by
  intro X hP hw hK hc i pins s σ H E I hf st hg
  subst hP hw hK
  obtain⟨xs,x,hq,hx⟩:=hg
  obtain⟨its,rv,p,hz⟩:=I.tuple hq
  obtain⟨u,hu,ru⟩:=rv.get hx
  obtain⟨f0,f1,f2,f3,f4,f5⟩:=hf it (by simp)
  refine wpAny_pyNext_tuple_item st (show s.heap.IsTuple a its.toArray from p) (x:=u) (by simpa using hu) λ h' st' sb=>?_
  have I1:Inv X pins σ H { s with heap:=h' }:=I.turned (t':=s.toks) (λ b o hb e=>(sb.2 b hb).trans e) f0 f1 f3 f4 f5
  obtain⟨o,e,c,d⟩:=id st'
  exact⟨u,rfl,go_of (s:={ s with heap:=h' }) e c d (by decide) ⟨x,H,I1,ru,⟨rfl,λ ys hy=>by rw[I.tuple_inj hy hq];exact hx⟩,st',λ b hb=>(hf b hb).1⟩⟩
 done:=by
  intro X hP hw hK hc i pins s σ H E I hf st hg
  subst hP hw hK
  obtain⟨xs,hq,hx⟩:=hg
  obtain⟨its,rv,p,hz⟩:=I.tuple hq
  obtain⟨f0,f1,f2,f3,f4,f5⟩:=hf it (by simp)
  have hl:=rv.length
  exact wpAny_pyNext_tuple_end (I.ok.hd hc) st (show s.heap.IsTuple a its.toArray from p) (by simp;omega) λ h' eb=>⟨rfl,I.turned (t':=s.toks) (λ b o hb e=>eb b o hb e) f0 f1 f3 f4 f5⟩
 self:=λ _ _ _ _ _ st h=>wpAny_pyIter_tupleiter st h
theorem turn_range {P:Program}{w:World}{K:PySem.W.Frag}{tg:Expr}(it:Addr)(lo:Int)(n:Nat):Turn P w K tg (Itr lo n) [it] it (λ i h=>IsRangeIter h it (lo+(i:Nat) * 1) ((n:Int) - (i:Nat)) 1) where
 mem:=by simp
 obj:=λ i h st b hb=>by
  have e:b=it:=by simpa using hb
  subst e
  exact⟨_,st,λ v z=>by
   have z':Data.fields _=Data.cell v:=z
   cases z'⟩
 keep:=λ i h h' st k=>k it (by simp) _ st
 item:=by
  intro X hP hw hK hc i pins s σ H E I hf st hg
  subst hP hw hK
  obtain⟨f0,f1,f2,f3,f4,f5⟩:=hf it (by simp)
  have W:=Walks.range (prog:=X.prog) (w:=X.w) (I.ok.hd hc) it lo 1 n
  refine W.item i s _ _ hg st λ v h' tk hv st' kk=>?_
  obtain⟨t,rfl⟩:=hv
  have I1:Inv X pins σ H { s with heap:=h',toks:=tk }:=I.turned (λ b o hb e=>kk b o (by simpa using hb) e) f0 f1 f3 f4 f5
  refine⟨_,rfl,go_of (s:={ s with heap:=h',toks:=tk }) (n:="range_iterator") st' rfl rfl (by decide) ⟨.int (lo+i),H,I1,⟨t,?_⟩,⟨rfl,rfl⟩,st',λ b hb=>(hf b hb).1⟩⟩
  rw[Int.mul_one]
 done:=by
  intro X hP hw hK hc i pins s σ H E I hf st hg
  subst hP hw hK
  obtain⟨f0,f1,f2,f3,f4,f5⟩:=hf it (by simp)
  exact wpAny_pyNext_range_end (I.ok.hd hc) st (by have:n<=i:=hg;omega) λ h' eb=>⟨rfl,I.turned (t':=s.toks) (λ b o hb e=>eb b o hb e) f0 f1 f3 f4 f5⟩
 self:=λ _ _ _ _ _ st h=>wpAny_pyIter_rangeiter st h
end L2
namespace L2
open PySem PySem.Spec PyProof.Rows
section
variable {X:Cx}{tg:Expr}
def iList (K:PySem.W.Frag)(tl:TE):TI:=λ σ H R=>tl σ H λ x H1=>∃ a,x=.ref a/\(∃ xs,SqL K H1 a xs)/\R (Itl K a) H1
theorem pi_list {l:Expr}{tl:TE}(hl:PE X l tl):PI X tg l (iList X.K tl):=by
 intro pins s σ H R I h
 refine thn (hl pins s σ H _ I h) λ v s1 ⟨x,H1,I1,r1,q1⟩=>?_
 obtain⟨a,e,⟨xs,hq⟩,q⟩:=q1
 subst e
 cases r1
 obtain⟨its,rv,p,hz⟩:=I1.list hq
 refine wpAny_pyIter_list p.isList ?_
 refine⟨s1.heap.objs.size,[s1.heap.objs.size],_,_,H1,rfl,I1.kept (t':=s1.toks) λ b o e=>Heap.get?_push_of_some _ e,turn_list a _,⟨_,Heap.get?_push_size _ rfl,rfl,rfl⟩,λ b hb=>?_,q⟩
 have e:b=s1.heap.objs.size:=by simpa using hb
 subst e
 exact I1.fpOk (Nat.le_refl _) (I1.hok.fresh (Nat.le_refl _))
theorem range_it {pins:List (Addr × Obj)}{σ:St}{H:Hp}{s:Shared}{R:It->Hp->Prop}{E:Value->Shared->Prop}{lo hi:Int}{t u v:Tok}{tk:Nat}(I:Inv X pins σ H s)(h1:-(2 ^ 62)<=lo) (h2:lo < 2 ^ 62)(h3:-(2 ^ 62)<=hi) (h4:hi < 2 ^ 62)
  (q:R (Itr lo (hi - lo).toNat) H):wpAny (model X.prog X.w) X.A (pyIter (.ref s.heap.objs.size)) (PIE X pins σ tg R) E { s with heap:=s.heap.push { cls:=.type "range",data:=.fields #[.int lo t,.int hi u,.int 1 v] },toks:=tk }:=by
 refine wpAny_pyIter_range (IsRange.new ..) (small_one h1 h2 h3 h4) ?_
 have I1:Inv X pins σ H { s with heap:=s.heap.push { cls:=.type "range",data:=.fields #[.int lo t,.int hi u,.int 1 v] },toks:=tk }:=I.kept λ b o e=>Heap.get?_push_of_some _ e
 refine⟨(s.heap.push { cls:=.type "range",data:=.fields #[.int lo t,.int hi u,.int 1 v] }).objs.size,[(s.heap.push { cls:=.type "range",data:=.fields #[.int lo t,.int hi u,.int 1 v] }).objs.size],_,_,H,rfl,
  I1.kept (t':=tk) λ b o e=>Heap.get?_push_of_some _ e,turn_range _ lo (hi - lo).toNat,?_,λ b hb=>?_,q⟩
 ·have e1:lo+((0:Nat):Int) * 1=lo:=by simp
  have e2:(((hi - lo).toNat:Nat):Int) - ((0:Nat):Int)=Builtin.Range.rangeSize lo hi 1:=by rw[rangeSize_one];split<;>omega
  show IsRangeIter _ _ (lo+((0:Nat):Int) * 1) ((((hi - lo).toNat:Nat):Int) - ((0:Nat):Int)) 1
  rw[e1,e2]
  exact Heap.get?_push_size _ rfl
 ·have e:b=(s.heap.push { cls:=.type "range",data:=.fields #[.int lo t,.int hi u,.int 1 v] }).objs.size:=by simpa using hb
  subst e
  exact I1.fpOk (Nat.le_refl _) (I1.hok.fresh (Nat.le_refl _))
def iRng1 (ta:TA):TI:=λ σ H R=>ta σ H λ vs H1=>∃ j:Int,vs=[.int j]/\-(2 ^ 62)<=j/\j < 2 ^ 62/\R (Itr 0 j.toNat) H1
theorem pi_range1 {a:Expr}{ta:TA}{p pos:Pos}(hg:Gl X "range")(hm:X.mg "range"=none)(ha:PA X [a] ta)(hs:starEach [a] X.env=[(false,eval a X.env)]:=by rfl):PI X tg (.Call (.Name "range" p) [a] [] pos) (iRng1 ta):=by
 intro pins s σ H R I h
 refine Call_ (ld_blt I hg hm boot_range (PyProof.Rows.callWith_type1 (thn (ha pos pins s σ H _ I h) λ us s1 ⟨vs,H1,I1,r1,q1⟩=>?_) hs rfl))
 obtain⟨j,e,q1,q2,q⟩:=q1
 subst e
 cases r1 with
 | cons r rr=>
  cases rr
  obtain⟨t,rfl⟩:=r
  exact call_range_1 (range_it I1 (by omega) (by omega) q1 q2 (by simpa using q))
def tFor (wi:TI)(g:TG)(tb:TS):TS:=λ D σ H=>wi σ H λ J H1=>∃ W:Nat->Nat->St->Hp->Prop,(∃ m,W 0 m σ H1)/\∀ i m σ H,W i m σ H->
 (J.stop i H/\D.nx σ H)∨(J.go i H/\∃ N:St->Hp->Prop,(∀ σ' H',N σ' H'->∃ m',m' < m/\W (i+1) m' σ' H')/\∀ x H',J.yld i H x H'->g x σ H' λ σ2 H2=>tb { D with nx:=N,ct:=N,bk:=D.nx } σ2 H2)
def pinsAt (fp:List Addr)(h:Heap):List (Addr × Obj):=fp.filterMap λ b=>(h.get? b).map λ o=>(b,o)
theorem mem_pinsAt {fp:List Addr}{h:Heap}{b:Addr}{o:Obj}(hb:b∈fp)(e:h.get? b=some o):(b,o)∈pinsAt fp h:=List.mem_filterMap.mpr ⟨b,hb,by rw[e];rfl⟩
theorem of_pinsAt {fp:List Addr}{h:Heap}{p:Addr × Obj}(hp:p∈pinsAt fp h):p.1∈fp/\h.get? p.1=some p.2:=by
 obtain⟨b,hb,e⟩:=List.mem_filterMap.mp hp
 cases q:h.get? b with
 | none=>rw[q]at e;cases e
 | some o=>
  rw[q]at e
  have e':(b,o)=p:=Option.some.inj e
  subst e'
  exact⟨hb,q⟩
theorem Inv.pinned {pins:List (Addr × Obj)}{σ:St}{H:Hp}{s:Shared}{fp:List Addr}(I:Inv X pins σ H s)(hf:∀ b∈fp,FpOk X pins H b)(ho:∀ b∈fp,∃ o,s.heap.get? b=some o/\∀ v,o.data≠.cell v):Inv X (pins++pinsAt fp s.heap) σ H s:=
 I.pins_of λ p hp=>(List.mem_append.mp hp).elim (λ z=>I.pin p (List.mem_append_right _ z)) λ z=>by
  obtain⟨hb,e⟩:=of_pinsAt z
  obtain⟨f0,f1,f2,_⟩:=hf p.1 hb
  obtain⟨o,e',d⟩:=ho p.1 hb
  rw[e]at e';cases e'
  exact⟨e,f0,f1,f2,d⟩
theorem Inv.unpinned {pins pl:List (Addr × Obj)}{σ:St}{H:Hp}{s:Shared}(I:Inv X (pins++pl) σ H s):Inv X pins σ H s:=I.pins_of λ p hp=>I.pin p (List.mem_append_right _ (List.mem_append_left _ hp))
theorem ps_for {iter:Expr}{body:List Stmt}{wi:TI}{g:TG}{tb:TS}{pos:Pos}(hp:PassesOwn (model X.prog X.w) X.A X.env X.xe) (hc:X.calm=true)(hi:PI X tg iter wi)(hg:PG X tg g)(hb:PSs X body tb)
  (hs:∀ x,foldedSetIterable iter X.env x=pure x:=by intro _;rfl):PS X (.For tg iter body [] pos) (tFor wi g tb):=by
 intro pins s σ H D I h
 refine wpAny_For (thn (hi pins s σ H _ I h) λ v s1 h1=>thn h1 λ itv s2 h2=>?_) hs
 obtain⟨it,fp,tn,J,H2,e,I2,T,st2,f2,W,⟨m0,w0⟩,turn⟩:=h2
 subst e
 have stat:∀ {H':Hp},(∀ b∈fp,H' b=none)->∀ b∈fp,FpOk X pins H' b:=λ hn b hb=>⟨hn b hb,(f2 b hb).2⟩
 refine codeAny_forLoop_any (λ n s'=>∃ i σ' H',Inv X pins σ' H' s'/\tn i s'.heap/\(∀ b∈fp,H' b=none)/\W i n σ' H') ?_ m0 ⟨0,σ,H2,I2,st2,λ b hb=>(f2 b hb).1,w0⟩
 rintro n s3 ⟨i,σ3,H3,I3,st3,fr3,w3⟩
 rcases turn i n σ3 H3 w3 with⟨stop,qn⟩|⟨go,N,hN,step⟩
 ·refine wpAny_passesOwn hp (thn (T.done X rfl rfl rfl hc i pins s3 σ3 H3 X.xe I3 (stat fr3) st3 stop) λ r s4 ⟨hr,I4⟩=>?_)
  subst hr
  exact wpAny_execs_nil ⟨σ3,H3,I4,qn⟩
 ·refine wpAny_passesOwn hp (thn (T.item X rfl rfl rfl hc i pins s3 σ3 H3 X.xe I3 (stat fr3) st3 go) λ r s4 ⟨u,hr,h4⟩=>?_)
  subst hr
  refine wpAny_passesOwn hp (thn h4 λ _ s5 ⟨x,H5,I5,r5,y5,st5,fr5⟩=>?_)
  have I5':=I5.pinned (stat fr5) (T.obj _ _ st5)
  refine wpAny_passesOwn hp (thn (hg _ s5 σ3 H5 x u _ I5' r5 (step x H5 y5)) λ _ s6 ⟨σ6,H6,I6,q6⟩=>?_)
  refine wpAny_passesOwn hp (thn (hb _ s6 σ6 H6 _ I6 q6) λ f s7 q7=>?_)
  have again:∀ {σ7:St}{H7:Hp},Inv X (pins++pinsAt fp s5.heap) σ7 H7 s7->N σ7 H7->∃ m,m < n/\∃ i σ' H',Inv X pins σ' H' s7/\tn i s7.heap/\(∀ b∈fp,H' b=none)/\W i m σ' H':=λ {σ7 H7} I7 n7=>by
   obtain⟨m',hm,w7⟩:=hN σ7 H7 n7
   refine⟨m',hm,i+1,σ7,H7,I7.unpinned,T.keep _ _ _ st5 λ b hb o e=>(I7.pin (b,o) (List.mem_append_right _ (List.mem_append_right _ (mem_pinsAt hb e)))).1,λ b hb=>?_,w7⟩
   obtain⟨o,e,d⟩:=T.obj _ _ st5 b hb
   exact(I7.pin (b,o) (List.mem_append_right _ (List.mem_append_right _ (mem_pinsAt hb e)))).2.1
  cases f with
  | next=>obtain⟨σ7,H7,I7,n7⟩:=q7;exact again I7 n7
  | cont=>obtain⟨σ7,H7,I7,n7⟩:=q7;exact again I7 n7
  | brk=>obtain⟨σ7,H7,I7,q7⟩:=q7;exact⟨σ7,H7,I7.unpinned,q7⟩
  | ret v=>obtain⟨x7,σ7,H7,I7,r7,q7⟩:=q7;exact⟨x7,σ7,H7,I7.unpinned,r7,q7⟩
end
end L2
namespace L2
open PySem PySem.Spec PyProof.Rows
abbrev R2:=V->V->Hp->VK->Prop
def OpR (X:Cx)(f:Value->Value->Sem Value)(r:R2):Prop:=
 ∀ (pins:List (Addr × Obj)) (s:Shared) (σ:St) (H:Hp) (x y:V) (v u:Value) (Q:VK),Inv X pins σ H s->RelV x v->RelV y u->r x y H Q->
  wpAny (model X.prog X.w) X.A (f v u) (EP X pins σ Q) X.xe s
def UnR (X:Cx)(f:Value->Sem Value)(r:V->Hp->VK->Prop):Prop:=
 ∀ (pins:List (Addr × Obj)) (s:Shared) (σ:St) (H:Hp) (x:V) (v:Value) (Q:VK),Inv X pins σ H s->RelV x v->r x H Q->
  wpAny (model X.prog X.w) X.A (f v) (EP X pins σ Q) X.xe s
def CallR (X:Cx)(f:Value)(r:List V->Hp->VK->Prop):Prop:=
 ∀ (pins:List (Addr × Obj)) (s:Shared) (σ:St) (H:Hp) (xs:List V) (us:List Value) (Q:VK),Inv X pins σ H s->Vals xs us->r xs H Q->
  wpAny (model X.prog X.w) X.A (call f us) (EP X pins σ Q) X.xe s
def TruR (X:Cx)(r:V->Hp->(Bool->Hp->Prop)->Prop):Prop:=
 ∀ (pins:List (Addr × Obj)) (s:Shared) (σ:St) (H:Hp) (x:V) (v:Value) (Q:Bool->Hp->Prop),Inv X pins σ H s->RelV x v->r x H Q->
  wpAny (model X.prog X.w) X.A (truthy v) (TP X pins σ Q) X.xe s
def tOp (r:R2)(ta tb:TE):TE:=λ σ H Q=>ta σ H λ x H1=>tb σ H1 λ y H2=>r x y H2 Q
def tUn (r:V->Hp->VK->Prop)(ta:TE):TE:=λ σ H Q=>ta σ H λ x H1=>r x H1 Q
def rI (C:Int->Int->Prop)(g:Int->Int->V):R2:=λ x y H Q=>∃ i j,x=.int i/\y=.int j/\C i j/\Q (g i j) H
def rI0 (g:Int->Int->V):R2:=λ x y H Q=>∃ i j,x=.int i/\y=.int j/\Q (g i j) H
def rU (g:Int->V):V->Hp->VK->Prop:=λ x H Q=>∃ i,x=.int i/\Q (g i) H
section
variable {X:Cx}{a b c:Expr}{ta tb tc:TE}{pos:Pos}
theorem binT (ha:PE X a ta)(hb:PE X b tb){pins:List (Addr × Obj)}{s:Shared}{σ:St}{H:Hp}{R:V->V->Hp->Prop}(I:Inv X pins σ H s)
  (h:ta σ H λ x H1=>tb σ H1 λ y H2=>R x y H2) {Q:Value->Shared->Prop}{f:Value->Value->Sem Value}
  (hf:∀ v u s2 x y H2,Inv X pins σ H2 s2->RelV x v->RelV y u->R x y H2->wpAny (model X.prog X.w) X.A (f v u) Q X.xe s2) :
  wpAny (model X.prog X.w) X.A (eval a X.env) (λ v s₁=>wpAny (model X.prog X.w) X.A (eval b X.env) (λ u s₂=>wpAny (model X.prog X.w) X.A (f v u) Q X.xe s₂) X.xe s₁) X.xe s:=by
 refine thn (ha pins s σ H _ I h) λ v s1 ⟨x,H1,I1,r1,q1⟩=>?_
 refine thn (hb pins s1 σ H1 _ I1 q1) λ u s2 ⟨y,H2,I2,r2,q2⟩=>?_
 exact hf v u s2 x y H2 I2 r1 r2 q2
theorem pe_op {op:Operator}{r:R2}(ho:OpR X (binaryOp op) r) (ha:PE X a ta)(hb:PE X b tb):PE X (.BinOp a op b pos) (tOp r ta tb):=by
 intro pins s σ H Q I h
 exact wpAny_BinOp (binT ha hb I h λ v u s2 x y H2 I2 rx ry q=>ho pins s2 σ H2 x y v u Q I2 rx ry q)
theorem pe_un {op:UnaryOp}{r:V->Hp->VK->Prop}(ho:UnR X (unaryOp op) r) (ha:PE X a ta):PE X (.UnaryOp op a pos) (tUn r ta):=by
 intro pins s σ H Q I h
 exact UnaryOp_ (thn (ha pins s σ H _ I h) λ v s1 ⟨x,H1,I1,r1,q1⟩=>ho pins s1 σ H1 x v Q I1 r1 q1)
theorem opI {f:Value->Value->Sem Value}{C:Int->Int->Prop}{g:Int->Int->Int}
  (rule:∀ (i j:Int) (t u:Tok) (s:Shared) (Q:Value->Shared->Prop) (E:Value->Shared->Prop),C i j->Q (.int (g i j) s.toks) { s with toks:=s.toks+1 }->wpAny (model X.prog X.w) X.A (f (.int i t) (.int j u)) Q E s) :
  OpR X f (rI C λ i j=>.int (g i j)):=by
 intro pins s σ H x y v u Q I rx ry h
 obtain⟨i,j,rfl,rfl,hc,q⟩:=h
 obtain⟨t,rfl⟩:=rx
 obtain⟨t',rfl⟩:=ry
 exact rule i j t t' s _ _ hc ⟨.int (g i j),H,I.tok _,⟨_,rfl⟩,q⟩
theorem opI0 {f:Value->Value->Sem Value}{g:Int->Int->Int}
  (rule:∀ (i j:Int) (t u:Tok) (s:Shared) (Q:Value->Shared->Prop) (E:Value->Shared->Prop),Q (.int (g i j) s.toks) { s with toks:=s.toks+1 }->wpAny (model X.prog X.w) X.A (f (.int i t) (.int j u)) Q E s) :
  OpR X f (rI0 λ i j=>.int (g i j)):=by
 intro pins s σ H x y v u Q I rx ry h
 obtain⟨i,j,rfl,rfl,q⟩:=h
 obtain⟨t,rfl⟩:=rx
 obtain⟨t',rfl⟩:=ry
 exact rule i j t t' s _ _ ⟨.int (g i j),H,I.tok _,⟨_,rfl⟩,q⟩
theorem opB0 {f:Value->Value->Sem Value}{g:Int->Int->Bool}
  (rule:∀ (i j:Int) (t u:Tok) (s:Shared) (Q:Value->Shared->Prop) (E:Value->Shared->Prop),Q (.bool (g i j)) s->wpAny (model X.prog X.w) X.A (f (.int i t) (.int j u)) Q E s) :
  OpR X f (rI0 λ i j=>.bl (g i j)):=by
 intro pins s σ H x y v u Q I rx ry h
 obtain⟨i,j,rfl,rfl,q⟩:=h
 obtain⟨t,rfl⟩:=rx
 obtain⟨t',rfl⟩:=ry
 exact rule i j t t' s _ _ ⟨.bl (g i j),H,I,rfl,q⟩
def CPow (i j:Int):Prop:=0<=j/\j<=1000000/\i.natAbs < 2 ^ 64
theorem op_add:OpR X (binaryOp .Add) (rI0 λ i j=>.int (i+j)):=opI0 λ _ _ _ _ _ _ _ q=>add_int q
theorem op_sub:OpR X (binaryOp .Sub) (rI0 λ i j=>.int (i - j)):=opI0 λ _ _ _ _ _ _ _ q=>sub_int q
theorem op_modN:OpR X (binaryOp .Mod) (rI (λ _ j=>j≠0) λ i j=>.int (i.fmod j)):=opI λ _ _ _ _ _ _ _ hc q=>mod_int' hc q
theorem op_pow:OpR X (binaryOp .Pow) (rI CPow λ i j=>.int (i ^ j.toNat)):=opI λ _ _ _ _ _ _ _ hc q=>pow_int_small hc.1 hc.2.1 hc.2.2 q
theorem unI {f:Value->Sem Value}{g:Int->Int}
  (rule:∀ (i:Int) (t:Tok) (s:Shared) (Q:Value->Shared->Prop) (E:Value->Shared->Prop),Q (.int (g i) s.toks) { s with toks:=s.toks+1 }->wpAny (model X.prog X.w) X.A (f (.int i t)) Q E s) :
  UnR X f (rU λ i=>.int (g i)):=by
 intro pins s σ H x v Q I rx h
 obtain⟨i,rfl,q⟩:=h
 obtain⟨t,rfl⟩:=rx
 exact rule i t s _ _ ⟨.int (g i),H,I.tok _,⟨_,rfl⟩,q⟩
theorem un_neg:UnR X (unaryOp .USub) (rU λ i=>.int (-i)):=unI λ _ _ _ _ _ q=>neg_int q
end
def scal:V->V->Bool
 | .non,.non=>true|.non,.int _=>true|.int _,.non=>true|.non,.bl _=>true|.bl _,.non=>true|.non,.str _=>true|.str _,.non=>true
 | .int _,.int _=>true|.bl _,.bl _=>true|.str _,.str _=>true|.byt _,.byt _=>true
 | .int _,.str _=>true|.str _,.int _=>true|.bl _,.str _=>true|.str _,.bl _=>true
 | _,_=>false
def rEq:R2:=λ x y H Q=>scal x y=true/\Q (.bl (decide (x=y))) H
def rNe:R2:=λ x y H Q=>scal x y=true/\Q (.bl (!decide (x=y))) H
theorem dec_int {i j:Int}:decide (V.int i=V.int j)=(i == j):=by
 rw[Bool.eq_iff_iff]
 simp
theorem dec_bl {i j:Bool}:decide (V.bl i=V.bl j)=(i == j):=by
 rw[Bool.eq_iff_iff]
 simp
theorem dec_str {i j:Str}:decide (V.str i=V.str j)=(i == j):=by
 rw[Bool.eq_iff_iff]
 simp
theorem dec_byt {i j:Array UInt8}:decide (V.byt i=V.byt j)=(i.toList == j.toList):=by
 rw[Bool.eq_iff_iff]
 cases i
 cases j
 simp
section
variable {X:Cx}{a b c:Expr}{ta tb tc:TE}{pos:Pos}
theorem fin_bl {pins:List (Addr × Obj)}{σ:St}{H:Hp}{s:Shared}{Q:VK}{k k':Bool}(I:Inv X pins σ H s)(q:Q (.bl k) H) (e:k=k'):EP X pins σ Q (.bool k') s:=by
 subst e
 exact⟨.bl k,H,I,rfl,q⟩
theorem op_eq:OpR X (compareOp .Eq) rEq:=by
 intro pins s σ H x y v u Q I rx ry h
 obtain⟨hs,q⟩:=h
 cases x with
 | non=>
  cases rx
  cases y with
  | non=>cases ry;exact PySem.EqNone.eq_none_none (fin_bl I q (by simp))
  | bl j=>cases ry;exact PySem.EqNone.eq_none_bool (fin_bl I q (by simp))
  | int j=>obtain⟨t',rfl⟩:=ry;exact PySem.EqNone.eq_none_int (fin_bl I q (by simp))
  | str j=>obtain⟨t',rfl⟩:=ry;exact PySem.EqNone.eq_none_str (fin_bl I q (by simp))
  | _=>exact absurd (show false=true from hs) Bool.false_ne_true
 | bl i=>
  cases rx
  cases y with
  | non=>cases ry;exact PySem.EqNone.eq_bool_none (fin_bl I q (by simp))
  | bl j=>cases ry;exact eq_bool (fin_bl I q dec_bl)
  | str j=>obtain⟨t',rfl⟩:=ry;exact PySem.EqMixed.eq_bool_str (fin_bl I q (by simp))
  | _=>exact absurd (show false=true from hs) Bool.false_ne_true
 | int i=>
  obtain⟨t,rfl⟩:=rx
  cases y with
  | non=>cases ry;exact PySem.EqNone.eq_int_none (fin_bl I q (by simp))
  | int j=>obtain⟨t',rfl⟩:=ry;exact eq_int (fin_bl I q dec_int)
  | str j=>obtain⟨t',rfl⟩:=ry;exact PySem.EqMixed.eq_int_str (fin_bl I q (by simp))
  | _=>exact absurd (show false=true from hs) Bool.false_ne_true
 | str i=>
  obtain⟨t,rfl⟩:=rx
  cases y with
  | non=>cases ry;exact PySem.EqNone.eq_str_none (fin_bl I q (by simp))
  | bl j=>cases ry;exact PySem.EqMixed.eq_str_bool (fin_bl I q (by simp))
  | int j=>obtain⟨t',rfl⟩:=ry;exact PySem.EqMixed.eq_str_int (fin_bl I q (by simp))
  | str j=>obtain⟨t',rfl⟩:=ry;exact eq_str (fin_bl I q dec_str)
  | _=>exact absurd (show false=true from hs) Bool.false_ne_true
 | byt i=>
  obtain⟨t,rfl⟩:=rx
  cases y with
  | byt j=>obtain⟨t',rfl⟩:=ry;exact PySem.W.eq_bytes (fin_bl I q dec_byt)
  | _=>exact absurd (show false=true from hs) Bool.false_ne_true
 | _=>cases y<;>exact absurd (show false=true from hs) Bool.false_ne_true
theorem op_ne:OpR X (compareOp .NotEq) rNe:=by
 intro pins s σ H x y v u Q I rx ry h
 obtain⟨hs,q⟩:=h
 cases x with
 | non=>
  cases rx
  cases y with
  | non=>cases ry;exact PySem.EqNone.ne_none_none (fin_bl I q (by simp))
  | bl j=>cases ry;exact PySem.EqNone.ne_none_bool (fin_bl I q (by simp))
  | int j=>obtain⟨t',rfl⟩:=ry;exact PySem.EqNone.ne_none_int (fin_bl I q (by simp))
  | str j=>obtain⟨t',rfl⟩:=ry;exact PySem.EqNone.ne_none_str (fin_bl I q (by simp))
  | _=>exact absurd (show false=true from hs) Bool.false_ne_true
 | bl i=>
  cases rx
  cases y with
  | non=>cases ry;exact PySem.EqNone.ne_bool_none (fin_bl I q (by simp))
  | bl j=>cases ry;exact ne_bool (fin_bl I q (congrArg not dec_bl))
  | str j=>obtain⟨t',rfl⟩:=ry;exact PySem.EqMixed.ne_bool_str (fin_bl I q (by simp))
  | _=>exact absurd (show false=true from hs) Bool.false_ne_true
 | int i=>
  obtain⟨t,rfl⟩:=rx
  cases y with
  | non=>cases ry;exact PySem.EqNone.ne_int_none (fin_bl I q (by simp))
  | int j=>obtain⟨t',rfl⟩:=ry;exact ne_int (fin_bl I q (congrArg not dec_int))
  | str j=>obtain⟨t',rfl⟩:=ry;exact PySem.EqMixed.ne_int_str (fin_bl I q (by simp))
  | _=>exact absurd (show false=true from hs) Bool.false_ne_true
 | str i=>
  obtain⟨t,rfl⟩:=rx
  cases y with
  | non=>cases ry;exact PySem.EqNone.ne_str_none (fin_bl I q (by simp))
  | bl j=>cases ry;exact PySem.EqMixed.ne_str_bool (fin_bl I q (by simp))
  | int j=>obtain⟨t',rfl⟩:=ry;exact PySem.EqMixed.ne_str_int (fin_bl I q (by simp))
  | str j=>obtain⟨t',rfl⟩:=ry;exact ne_str (fin_bl I q (congrArg not dec_str))
  | _=>exact absurd (show false=true from hs) Bool.false_ne_true
 | byt i=>
  obtain⟨t,rfl⟩:=rx
  cases y with
  | byt j=>obtain⟨t',rfl⟩:=ry;exact PySem.W.ne_bytes (fin_bl I q (congrArg not dec_byt))
  | _=>exact absurd (show false=true from hs) Bool.false_ne_true
 | _=>cases y<;>exact absurd (show false=true from hs) Bool.false_ne_true
theorem op_lt:OpR X (compareOp .Lt) (rI0 λ i j=>.bl (decide (i < j))):=opB0 λ _ _ _ _ _ _ _ q=>lt_int q
theorem op_le:OpR X (compareOp .LtE) (rI0 λ i j=>.bl (decide (i<=j))):=opB0 λ _ _ _ _ _ _ _ q=>le_int q
theorem op_gt:OpR X (compareOp .Gt) (rI0 λ i j=>.bl (decide (j < i))):=opB0 λ _ _ _ _ _ _ _ q=>gt_int q
theorem op_ge:OpR X (compareOp .GtE) (rI0 λ i j=>.bl (decide (j<=i))):=opB0 λ _ _ _ _ _ _ _ q=>ge_int q
theorem op_lt_str:OpR X (compareOp .Lt) (λ x y H Q=>∃ i j,x=.str i/\y=.str j/\Q (.bl (decide (i.cps.toList < j.cps.toList))) H):=by
 intro pins s σ H x y v u Q I rx ry h
 obtain⟨i,j,rfl,rfl,q⟩:=h
 obtain⟨t,rfl⟩:=rx
 obtain⟨t',rfl⟩:=ry
 exact lt_str (fin_bl I q rfl)
theorem op_isN:OpR X (compareOp .Is) (λ x y H Q=>y=.non/\Q (.bl (decide (x=.non))) H):=by
 intro pins s σ H x y v u Q I rx ry h
 obtain⟨rfl,q⟩:=h
 cases ry
 refine is_none_gen (fin_bl I q ?_)
 cases x<;>first
  | (cases rx;rfl)
  | (obtain⟨t,rfl⟩:=rx;rfl)
theorem op_notN:OpR X (compareOp .IsNot) (λ x y H Q=>y=.non/\Q (.bl (!decide (x=.non))) H):=by
 intro pins s σ H x y v u Q I rx ry h
 obtain⟨rfl,q⟩:=h
 cases ry
 refine isnot_none_gen (fin_bl I q ?_)
 cases x<;>first
  | (cases rx;rfl)
  | (obtain⟨t,rfl⟩:=rx;rfl)
theorem pe_cmpR {op:CmpOp}{r:R2}(ho:OpR X (compareOp op) r) (ha:PE X a ta)(hb:PE X b tb)(hm:behindInMarks op b=false):PE X (.Compare a [op] [b] pos) (tOp r ta tb):=by
 intro pins s σ H Q I h
 exact wpAny_Compare1 (binT ha hb I h λ v u s2 x y H2 I2 rx ry q=>ho pins s2 σ H2 x y v u Q I2 rx ry q) hm
def tTest (t:TE):TT:=λ σ H Q=>t σ H λ x H'=>∃ k,x=.bl k/\Q k H'
theorem pt_cmpR {op:CmpOp}{r:R2}(ho:OpR X (compareOp op) r) (ha:PE X a ta)(hb:PE X b tb)(hm:behindInMarks op b=false):PT X (.Compare a [op] [b] pos) (tTest (tOp r ta tb)):=by
 intro pins s σ H Q I h
 refine wpAny_isTrue_Compare1 (thn (ha pins s σ H _ I h) λ v s1 ⟨x,H1,I1,r1,q1⟩=>thn (hb pins s1 σ H1 _ I1 q1) λ u s2 ⟨y,H2,I2,r2,q2⟩=>
  thn (ho pins s2 σ H2 x y v u _ I2 r1 r2 q2) λ c s3 ⟨z,H3,I3,r3,k,e,q3⟩=>?_) hm
 subst e
 cases r3
 exact wpAny_truthy_bool ⟨H3,I3,q3⟩
def tChain (r r':R2)(ta tb tc:TE):TE:=λ σ H Q=>ta σ H λ x H1=>tb σ H1 λ y H2=>r x y H2 λ z H3=>∃ k,z=.bl k/\
 (if k=true then tc σ H3 λ w' H4=>r' y w' H4 Q else Q (.bl false) H3)
theorem pe_chain {op op':CmpOp}{r r':R2}(ho:OpR X (compareOp op) r) (ho':OpR X (compareOp op') r') (ha:PE X a ta)(hb:PE X b tb)(hc:PE X c tc)
  (hm:lastMarks [op,op'] [b,c]=false:=by with_unfolding_all rfl):PE X (.Compare a [op,op'] [b,c] pos) (tChain r r' ta tb tc):=by
 intro pins s σ H Q I h
 refine Compare_chain (thn (ha pins s σ H _ I h) λ v s1 ⟨x,H1,I1,r1,q1⟩=>chain_link (thn (hb pins s1 σ H1 _ I1 q1) λ u s2 ⟨y,H2,I2,r2,q2⟩=>
  thn (ho pins s2 σ H2 x y v u _ I2 r1 r2 q2) λ d s3 ⟨z,H3,I3,r3,k,e,q3⟩=>?_)) hm
 subst e
 cases r3
 refine wpAny_truthy_bool ?_
 cases k with
 | false=>exact ite_ff ⟨.bl false,H3,I3,rfl,q3⟩
 | true=>exact ite_tt (chain_last (thn (hc pins s3 σ H3 _ I3 q3) λ w' s4 ⟨z',H4,I4,r4,q4⟩=>ho' pins s4 σ H4 y z' u w' Q I4 r2 r4 q4))
theorem pt_chain {op op':CmpOp}{r r':R2}(ho:OpR X (compareOp op) r) (ho':OpR X (compareOp op') r') (ha:PE X a ta)(hb:PE X b tb)(hc:PE X c tc)
  (hm:lastMarks [op,op'] [b,c]=false:=by with_unfolding_all rfl):PT X (.Compare a [op,op'] [b,c] pos) (tTest (tChain r r' ta tb tc)):=by
 intro pins s σ H Q I h
 refine isTrue_chain (thn (ha pins s σ H _ I h) λ v s1 ⟨x,H1,I1,r1,q1⟩=>test_link (thn (hb pins s1 σ H1 _ I1 q1) λ u s2 ⟨y,H2,I2,r2,q2⟩=>
  thn (ho pins s2 σ H2 x y v u _ I2 r1 r2 q2) λ d s3 ⟨z,H3,I3,r3,k,e,q3⟩=>?_)) hm
 subst e
 cases r3
 refine wpAny_truthy_bool ?_
 cases k with
 | false=>
  obtain⟨k',e',q'⟩:=q3
  cases e'
  exact ite_ff ⟨H3,I3,q'⟩
 | true=>
  refine ite_tt (test_last (thn (hc pins s3 σ H3 _ I3 q3) λ w' s4 ⟨z',H4,I4,r4,q4⟩=>thn (ho' pins s4 σ H4 y z' u w' _ I4 r2 r4 q4) λ d' s5 ⟨z2,H5,I5,r5,k2,e2,q5⟩=>?_))
  subst e2
  cases r5
  exact wpAny_truthy_bool ⟨H5,I5,q5⟩
def TruV (K:PySem.W.Frag)(x:V)(H:Hp)(k:Bool):Prop:=
 match x with
 | .non=>k=false
 | .bl b=>k=b
 | .int i=>k=(i != 0)
 | .str y=>y.length<=sizeLine/\k=((y.length:Int) != 0)
 | .byt y=>y.size<=sizeLine/\k=((y.size:Int) != 0)
 | .ref p=>(∃ xs,SqL K H p xs/\k=!xs.isEmpty)∨(∃ xs,SqT K H p xs/\k=!xs.isEmpty)∨∃ kvs,H p=some (.dK kvs)/\k=!kvs.isEmpty
 | _=>False
theorem isEmpty_kv {κ:Type}{kvs:List (κ × V)}{vs:List (κ × Value)}(r:KV kvs vs):(!vs.isEmpty)=!kvs.isEmpty:=by
 cases r<;>rfl
theorem isEmpty_of {xs:List V}{its:List Value}(r:Vals xs its):(!its.toArray.isEmpty)=!xs.isEmpty:=by
 cases r<;>simp
theorem line63:(sizeLine:Nat) < 2 ^ 63:=by rw[sizeLine_eq];decide
theorem tru_ok:TruR X (λ x H Q=>∃ k,TruV X.K x H k/\Q k H):=by
 intro pins s σ H x v Q I rx h
 obtain⟨k,e,q⟩:=h
 have hl:=line63
 have hs:sizeLine=16777216:=sizeLine_eq
 cases x with
 | non=>
  cases rx
  have e':k=false:=e
  subst e'
  exact truthy_none ⟨H,I,q⟩
 | bl b=>
  cases rx
  have e':k=b:=e
  subst e'
  exact wpAny_truthy_bool ⟨H,I,q⟩
 | int i=>
  obtain⟨t,rfl⟩:=rx
  have e':k=(i != 0):=e
  subst e'
  exact PySem.P.truthy_int ⟨H,I,q⟩
 | str y=>
  obtain⟨t,rfl⟩:=rx
  obtain⟨hy,e'⟩:y.length<=sizeLine/\k=((y.length:Int) != 0):=e
  subst e'
  exact PySem.P.truthy_str (by omega) ⟨H,I.tok _,q⟩
 | byt y=>
  obtain⟨t,rfl⟩:=rx
  obtain⟨hy,e'⟩:y.size<=sizeLine/\k=((y.size:Int) != 0):=e
  subst e'
  exact PySem.W.truthy_bytes (by omega) ⟨H,I.tok _,q⟩
 | ref p=>
  cases rx
  have e':(∃ xs,SqL X.K H p xs/\k=!xs.isEmpty)∨(∃ xs,SqT X.K H p xs/\k=!xs.isEmpty)∨∃ kvs,H p=some (.dK kvs)/\k=!kvs.isEmpty:=e
  rcases e' with⟨xs,hx,e'⟩|⟨xs,hx,e'⟩|⟨kvs,hx,e'⟩
  ·subst e'
   obtain⟨its,r,pl,hz⟩:=I.list hx
   have hlen:=r.length
   exact wpAny_truthy_list pl.isList (by simp only[List.size_toArray];omega) ⟨H,I.tok _,by rw[isEmpty_of r];exact q⟩
  ·subst e'
   obtain⟨its,r,pl,hz⟩:=I.tuple hx
   have hlen:=r.length
   exact truthy_tuple pl (by simp only[List.size_toArray];omega) ⟨H,I.tok _,by rw[isEmpty_of r];exact q⟩
  ·subst e'
   obtain⟨hz,hS,vs,r,m⟩:kvs.length<=sizeLine/\(p == sysModules)=false/\∃ vs,KV kvs vs/\s.heap.DictOf (mixKind X.prog X.w) p vs:=I.hok p _ hx
   have hlen:kvs.length=vs.length:=Paired.length r
   exact wpAny_truthy_dict hS m (by omega) ⟨H,I.tok _,by rw[isEmpty_kv r];exact q⟩
 | _=>exact(show False from e).elim
theorem pt_truth (ha:PE X a ta)(he:∀ whole,isTrue a X.env whole=(do let v <-whole;standAt a.pos;holding [v] (truthy v))) :
  PT X a (λ σ H Q=>ta σ H λ x H'=>∃ k,TruV X.K x H' k/\Q k H'):=by
 intro pins s σ H Q I h
 exact isTrue_plain (thn (ha pins s σ H _ I h) λ v s1 ⟨x,H1,I1,r1,q1⟩=>tru_ok pins s1 σ H1 x v Q I1 r1 q1) (he _)
theorem op_add_str:OpR X (binaryOp .Add) (λ x y H Q=>∃ i j,x=.str i/\y=.str j/\i.length+j.length<=sizeLine/\Q (.str (i++j)) H):=by
 intro pins s σ H x y v u Q I rx ry h
 obtain⟨i,j,rfl,rfl,hz,q⟩:=h
 obtain⟨t,rfl⟩:=rx
 obtain⟨t',rfl⟩:=ry
 exact add_str (λ t' tk=>⟨.str (i++j),H,I.tok _,⟨_,rfl⟩,q⟩) hz
theorem vals1 {x:V}{us:List Value}(r:Vals [x] us):∃ u,us=[u]/\RelV x u:=by
 cases r with
 | cons r1 r2=>cases r2;exact⟨_,rfl,r1⟩
theorem vals2 {x y:V}{us:List Value}(r:Vals [x,y] us):∃ u w',us=[u,w']/\RelV x u/\RelV y w':=by
 cases r with
 | cons r1 r2=>
  cases r2 with
  | cons r3 r4=>cases r4;exact⟨_,_,rfl,r1,r3⟩
theorem call_abs:CallR X (.builtin "abs") (λ xs H Q=>∃ i,xs=[.int i]/\Q (.int (if i < 0 then -i else i)) H):=by
 intro pins s σ H xs us Q I r h
 obtain⟨i,rfl,q⟩:=h
 obtain⟨u,rfl,t,rfl⟩:=vals1 r
 exact call_abs_int λ u tk=>⟨.int (if i < 0 then -i else i),H,I.tok _,⟨_,rfl⟩,q⟩
theorem call_min2 (hc:X.calm=true):CallR X (.builtin "min") (λ xs H Q=>∃ i j,xs=[.int i,.int j]/\Q (.int (if j < i then j else i)) H):=by
 intro pins s σ H xs us Q I r h
 obtain⟨i,j,rfl,q⟩:=h
 obtain⟨u,w',rfl,⟨t,rfl⟩,⟨t',rfl⟩⟩:=vals2 r
 refine min_two_ints (I.ok.hd hc) λ h' tk k=>⟨_,H,I.kept k,?_,q⟩
 by_cases hj:j < i
 ·rw[if_pos hj,if_pos hj];exact⟨_,rfl⟩
 ·rw[if_neg hj,if_neg hj];exact⟨_,rfl⟩
theorem call_int1:CallR X (.type "int") (λ xs H Q=>(∃ i,xs=[.int i]/\Q (.int i) H)∨∃ k,xs=[.bl k]/\Q (.int (if k then 1 else 0)) H):=by
 intro pins s σ H xs us Q I r h
 rcases h with⟨i,rfl,q⟩|⟨k,rfl,q⟩
 ·obtain⟨u,rfl,t,rfl⟩:=vals1 r
  exact call_int_int ⟨.int i,H,I,⟨_,rfl⟩,q⟩
 ·obtain⟨u,rfl,r1⟩:=vals1 r
  cases r1
  exact call_int_bool ⟨.int (if k then 1 else 0),H,I.tok _,⟨_,rfl⟩,q⟩
end
end L2
namespace L2
open PySem PySem.Spec PyProof.Rows
structure ObjM (h:Heap)(x dx C:Addr)(mA:Str->Option Value):Prop where
 obj:h.get? x=some (PySem.W.instObj C dx)
 ns:h.Ns1 dx mA
 ne:dx≠x
theorem lookIn_ns {h:Heap}{dx:Addr}{mA:Str->Option Value}(n:h.Ns1 dx mA):∃ od,h.get? dx=some od/\∀ name,PySem.W.lookIn name od=some (mA name):=by
 obtain⟨o,es,ep,ho,hd,hk,_,hm⟩:=n
 refine⟨o,ho,λ name=>?_⟩
 have e:=hm name
 unfold nsFind findBy at e
 rw[<-Array.find?_toList]at e
 unfold PySem.W.lookIn
 rw[hd]
 dsimp only
 split
 ·rename_i y q
  rw[q]at e
  exact congrArg some e
 ·rename_i q
  rw[q]at e
  have a:es.toList.any (·.refKey)=false:=by
   rw[List.any_eq_false]
   intro y hy
   obtain⟨z,t,hkey⟩:=hk y (Array.mem_toList_iff.mp hy)
   simp[DictEntry.refKey,hkey]
  have a':¬ es.toList.any (·.refKey)=true:=by rw[a];exact Bool.false_ne_true
  rw[if_neg a']
  exact congrArg some e
theorem ObjM.look {h:Heap}{x dx C:Addr}{mA:Str->Option Value}(I:ObjM h x dx C mA):∃ od,PySem.W.InstAt h x (PySem.W.instObj C dx) C (some od)/\∀ name,PySem.W.lookIn name od=some (mA name):=
 let ⟨od,ho,hl⟩:=lookIn_ns I.ns
 ⟨od,⟨I.obj,rfl,rfl,ho⟩,hl⟩
section
variable {prog:Program}{w:World}{A:Around}{E:Value->Shared->Prop}{s:Shared}{K:PySem.W.Frag}{x dx C f:Addr}{mA:Str->Option Value}{name:Str}{v:Value}
end
theorem RelO.some_of {v:V}{o:Option Value}(r:RelO (some v) o):∃ u,o=some u/\RelV v u:=by
 cases o with
 | none=>exact(show False from r).elim
 | some u=>exact⟨u,rfl,r⟩
section
variable {P:Program}{w:World}{H H':Hp}{h h':Heap}{a C dx:Addr}{fs fs':List (Str × V)}
theorem ins_get (hok:HOk P w H h)(e:H a=some (.ins C dx fs)):∃ mA,ObjM h a dx C mA/\(∀ f,RelO (fs.lookup f) (mA f))/\PySem.Within mA (fs.map (·.1))/\fs.length<=1000/\H dx=some (.own a):=by
 obtain⟨d,z,ne,ob,mA,n,r,q⟩:=(show ObjOk P w H h a (.ins C dx fs) from hok a _ e)
 exact⟨mA,⟨ob,n,ne⟩,r,q,z,d⟩
end
structure Cls (K:PySem.W.Frag)(C:Addr):Prop where
 pg:PySem.W.plainGet K C Str.empty=true
 hd:PySem.W.hasDictIn K C=true
 po:PySem.W.plainOver K C=true
 sa:PySem.W.findIn K (.ref C) "__setattr__"=some (some (.builtin "object.__setattr__"))
theorem Cls.get {K:PySem.W.Frag}{C:Addr}(c:Cls K C)(f:Str):PySem.W.plainGet K C f=true:=c.pg
section
variable {X:Cx}{pins:List (Addr × Obj)}{σ:St}{H:Hp}{s:Shared}{a C dx:Addr}{fs:List (Str × V)}{f:Str}{v:V}{A:Around}{E:Value->Shared->Prop}
end
section
variable {X:Cx}{o e value:Expr}{f:Str}{pos pos' tpos:Pos}{ta tv:TE}
end
section
variable {X:Cx}{pins:List (Addr × Obj)}{σ:St}{H:Hp}{s:Shared}{A:Around}{E:Value->Shared->Prop}{Q:Value->Shared->Prop}{c:Value}{b:Bool}
inductive TyOf (K:PySem.W.Frag) (H:Hp):V->Value->Prop where
 | non:TyOf K H .non (.type "NoneType")
 | bl (x:Bool):TyOf K H (.bl x) (.type "bool")
 | int (i:Int):TyOf K H (.int i) (.type "int")
 | str (x:Str):TyOf K H (.str x) (.type "str")
 | flt (x:UInt64):TyOf K H (.flt x) (.type "float")
 | lst {a:Addr}{xs:List V}(e:H a=some (.lst xs)):TyOf K H (.ref a) (.type "list")
 | frz {a:Addr}{o:Obj}{xs:List V}(e:H a=some (.frz o (.lst xs))):TyOf K H (.ref a) (.type "list")
 | tup {a:Addr}{xs:List V}(e:H a=some (.tup xs)):TyOf K H (.ref a) (.type "tuple")
 | dK {a:Addr}{kvs:List (Key × V)}(e:H a=some (.dK kvs)):TyOf K H (.ref a) (.type "dict")
 | dT {a:Addr}{kvs:List (List Key × V)}(e:H a=some (.dT kvs)):TyOf K H (.ref a) (.type "dict")
 | ins {a C dx:Addr}{fs:List (Str × V)}(e:H a=some (.ins C dx fs)) (cl:Cls K C) (ha:PySem.W.findIn K (.ref C) "__class__"=some (some (.builtin "object.__class__")))
   (hn:PySem.W.specialIn K (.builtin "object.__class__") "__get__"=some (some (.builtin "getset_descriptor.__get__"))) (htk:PySem.W.takesIn K (.builtin "object.__class__")=some true)
   (hm:PySem.W.mroIn K C (.type "object")=some true):TyOf K H (.ref a) (.ref C)
theorem isinst_ok {x:V}{u t:Value}(I:Inv X pins σ H s)(rx:RelV x u)(ty:TyOf X.K H x t)(e:PySem.W.kitOne X.K t c=some b)(h:∀ tk,Q (.bool b) { s with toks:=tk }) :
  wpAny (model X.prog X.w) A (call (.builtin "isinstance") [u,c]) Q E s:=by
 cases ty with
 | non=>cases (show u=Value.none from rx);exact PySem.W.kia_one PySem.W.kitx_none I.kIn True.intro e (λ z=>nomatch z) h
 | bl y=>cases (show u=Value.bool y from rx);exact PySem.W.kia_one PySem.W.kitx_bool I.kIn True.intro e (λ z=>nomatch z) h
 | int i=>obtain⟨t,q⟩:=(show ∃ t,u=Value.int i t from rx);cases q;exact PySem.W.kia_one PySem.W.kitx_int I.kIn True.intro e (λ z=>nomatch z) h
 | str y=>obtain⟨t,q⟩:=(show ∃ t,u=Value.str y t from rx);cases q;exact PySem.W.kia_one PySem.W.kitx_str I.kIn True.intro e (λ z=>nomatch z) h
 | flt y=>obtain⟨t,q⟩:=(show ∃ t,u=Value.float y t from rx);cases q;exact PySem.W.kia_one PySem.W.kitx_float I.kIn True.intro e (λ z=>nomatch z) h
 | @lst a xs ea=>
  cases (show u=Value.ref a from rx)
  obtain⟨_,_,n,_,h1⟩:=(show ObjOk X.prog X.w H s.heap a (.lst xs) from I.hok a _ ea)
  exact PySem.W.kia_one PySem.W.kitx_list I.kIn ⟨_,h1,rfl⟩ e (λ z=>nomatch z) h
 | @frz a ob xs ea=>
  cases (show u=Value.ref a from rx)
  obtain⟨_,_,_,n,_,h1⟩:=(show ObjOk X.prog X.w H s.heap a (.frz ob (.lst xs)) from I.hok a _ ea)
  exact PySem.W.kia_one PySem.W.kitx_list I.kIn ⟨_,h1,rfl⟩ e (λ z=>nomatch z) h
 | @tup a xs ea=>
  cases (show u=Value.ref a from rx)
  obtain⟨_,_,_,p⟩:=(show ObjOk X.prog X.w H s.heap a (.tup xs) from I.hok a _ ea)
  obtain⟨o,h1,h2,_⟩:=p
  exact PySem.W.kia_one PySem.W.kitx_tuple I.kIn ⟨o,h1,h2⟩ e (λ z=>nomatch z) h
 | @dK a kvs ea=>
  cases (show u=Value.ref a from rx)
  obtain⟨_,_,vs,_,p⟩:=(show ObjOk X.prog X.w H s.heap a (.dK kvs) from I.hok a _ ea)
  obtain⟨o,es,ep,h1,h2,_⟩:=p
  exact PySem.W.kia_one PySem.W.kitx_dict I.kIn ⟨o,h1,h2.1⟩ e (λ z=>nomatch z) h
 | @dT a kvs ea=>
  cases (show u=Value.ref a from rx)
  obtain⟨_,_,xs,_,o,es,ep,h1,h2,_⟩:=(show ObjOk X.prog X.w H s.heap a (.dT kvs) from I.hok a _ ea)
  exact PySem.W.kia_one PySem.W.kitx_dict I.kIn ⟨o,h1,h2.1⟩ e (λ z=>nomatch z) h
 | @ins a C dx fs ea cl ha hn htk hm=>
  cases (show u=Value.ref a from rx)
  obtain⟨mA,O,_⟩:=ins_get I.hok ea
  obtain⟨od,J,_⟩:=O.look
  exact PySem.W.kia_one (PySem.W.kitx_own (cl.get _) cl.hd ha hn htk hm) I.kIn J e (λ z=>nomatch z) h
end
end L2
namespace L2
open PySem PySem.Spec PyProof.Rows
structure Room (k:Nat)(A:Around):Prop where
 hd:A.handled=none
 gd:A.guards=some []
 dp:A.depth+3 * k+5 < recursionLimit
 un:A.units+16 * k+200 < cLine
theorem Room.mono {j k:Nat}{A:Around}(r:Room k A)(h:j<=k):Room j A:=⟨r.hd,r.gd,by have:=r.dp;omega,by have:=r.un;omega⟩
theorem Room.deeper {k:Nat}{A:Around}(r:Room (k+1) A) (env:Env):Room k (A.deeper env):=
 ⟨r.hd,r.gd,by have:=r.dp;show A.depth+1+3 * k+5 < _;omega,by have:=r.un;show A.units+3+16 * k+200 < _;omega⟩
theorem Room.depth {k:Nat}{A:Around}(r:Room k A):A.depth < recursionLimit:=by have:=r.dp;omega
theorem Room.units {k:Nat}{A:Around}(r:Room k A):A.units+64 < cLine:=by have:=r.un;omega
def tNil:TA:=λ _ H Q=>Q [] H
def tCons (ta:TE)(tr:TA):TA:=λ σ H Q=>ta σ H λ x H1=>tr σ H1 λ xs H2=>Q (x :: xs) H2
section
variable {X:Cx}{e:Expr}{es:List Expr}{te:TE}{t:TA}{pos:Pos}
theorem pa_nil:PA X [] tNil:=λ _ _ _ _ H Q I h=>Calls.spliced_nil ⟨[],H,I,.nil,h⟩
theorem pa_cons (ha:PE X e te)(hr:PA X es t)(hs:starEach (e :: es) X.env=(false,eval e X.env) :: starEach es X.env:=by rfl):PA X (e :: es) (tCons te t):=by
 intro pos pins s σ H Q I h
 rw[hs]
 show wpAny _ _ (spliced ((false,eval e X.env) :: backTo pos (starEach es X.env))) _ _ s
 refine Calls.spliced_cons (thn (ha pins s σ H _ I h) λ u s1 ⟨x,H1,I1,r1,q1⟩=>?_)
 exact thn (hr pos pins s1 σ H1 _ I1 q1) λ us s2 ⟨xs,H2,I2,r2,q2⟩=>⟨x :: xs,H2,I2,.cons r1 r2,q2⟩
def tTup (t:TA):TE:=λ σ H Q=>t σ H λ xs H1=>xs.length<=sizeLine/\∀ p,H1 p=none->Q (.ref p) (upd H1 p (.tup xs))
def tLst (t:TA):TE:=λ σ H Q=>t σ H λ xs H1=>xs.length<=sizeLine/\∀ p,H1 p=none->Q (.ref p) (upd H1 p (.lst xs))
theorem pe_tup {x1} (h:PA X es t):PE X (.Tuple es x1 pos) (tTup t):=by
 intro pins s σ H Q I hq
 refine wpAny_Tuple_spliced (thn (h pos pins s σ H _ I hq) λ us s1 ⟨xs,H1,I1,r,z,q⟩=>⟨by rw[<-r.length];exact z,?_⟩)
 have hf:H1 s1.heap.objs.size=none:=I1.hok.fresh (Nat.le_refl _)
 refine⟨.ref s1.heap.objs.size,upd H1 s1.heap.objs.size (.tup xs),I1.laid (t':=s1.toks) (λ b u e=>Heap.get?_push_of_some _ e) (Nat.le_refl _) ?_,rfl,q _ hf⟩
 exact⟨z,us,r,⟨_,Heap.get?_push_size _ rfl,rfl,_,rfl⟩⟩
theorem pe_lst (h:PA X es t):PE X (.List es pos) (tLst t):=by
 intro pins s σ H Q I hq
 refine wpAny_List_spliced (thn (h pos pins s σ H _ I hq) λ us s1 ⟨xs,H1,I1,r,z,q⟩=>⟨by rw[<-r.length];exact z,?_⟩)
 have hf:H1 s1.heap.objs.size=none:=I1.hok.fresh (Nat.le_refl _)
 refine⟨.ref s1.heap.objs.size,upd H1 s1.heap.objs.size (.lst xs),I1.laid (t':=s1.toks) (λ b u e=>Heap.get?_push_of_some _ e) (Nat.le_refl _) ?_,rfl,q _ hf⟩
 exact⟨z,us,0,r,Heap.get?_push_size _ rfl⟩
end
abbrev Sp:=List V->Hp->VK->XK->Prop
abbrev CXT:=List Env->Hp->Shared->XK->Value->Shared->Prop
structure Env0 (P:Program)(w:World)(K:PySem.W.Frag)(mg:Str->Option Value)(base:Heap)(A:Around)(outer:List Env)(s:Shared)(H:Hp):Prop where
 frames:A.frames=some outer
 mod:Mod K mg base
 bs:∀ b o,base.get? b=some o->s.heap.get? b=some o/\H b=none
 bsz:base.objs.size<=s.heap.objs.size
 funs:s.heap.FunFrames base outer
 frf:∀ b∈frs outer,H b=none
 hok:HOk P w H s.heap
 bare:AllBare s.gens
def CE (outer:List Env)(P:Program)(w:World)(H:Hp)(s:Shared)(Q:VK)(u:Value)(s':Shared):Prop:=
 ∃ v H',s'.os=s.os/\AllBare s'.gens/\Un (frs outer) [] H H' s.heap s'.heap/\HOk P w H' s'.heap/\RelV v u/\Q v H'
def CR (CX:CXT)(outer:List Env)(P:Program)(w:World)(H:Hp)(s:Shared)(Q:VK)(E:XK)(r:Result)(s':Shared):Prop:=
 match r with
 | .ok (.ret u)=>CE outer P w H s Q u s'
 | .ok _=>False
 | .error e=>CX outer H s E e s'
structure FnOk (P:Program)(w:World)(K:PySem.W.Frag)(mg:Str->Option Value)(base:Heap)(CX:CXT)(k:Nat)(f:Addr)(fd:FuncData)(ps:List Str)(sp:Sp):Prop where
 len:∀ vs H Q E,sp vs H Q E->vs.length=ps.length
 run:∀ (A:Around) (outer:List Env) (s:Shared) (H:Hp) (args:Args) (us:List Value) (vs:List V) (Q:VK) (E:XK),Room k A->Env0 P w K mg base A outer s H->BindsTo s fd args (ps.zip us)->Vals vs us->sp vs H Q E->
  codeAny (model P w) A (.call (.ref f) args) (CR CX outer P w H s Q E) s
section
variable {X:Cx}{pins:List (Addr × Obj)}{σ:St}{H:Hp}{s s':Shared}
theorem Inv.env0 (I:Inv X pins σ H s):Env0 X.prog X.w X.K X.mg X.base X.A X.stack s H:=
 ⟨I.ok.frames,I.ok.mod,I.bs,Nat.le_trans I.ok.bsz I.sz,I.stack,I.stkFree,I.hok,I.bare⟩
theorem Inv.after {Q:VK}{u:Value}(I:Inv X pins σ H s)(h:CE X.stack X.prog X.w H s Q u s'):EP X pins σ Q u s':=by
 obtain⟨v,H',os,bare,un,hok,r,q⟩:=h
 obtain⟨hh,g,d,t,os'⟩:=s'
 obtain rfl:os'=s.os:=os
 exact⟨v,H',I.call (h':=hh) (g':=g) (d':=d) (t':=t) (ch:=[]) un hok bare (λ b z=>absurd z (by simp)),r,q⟩
end
def tCall (sp:Sp)(dvs:List V)(E:XK)(t:TA):TE:=λ σ H Q=>t σ H λ vs H1=>sp (vs++dvs) H1 Q E
def Binds (K:PySem.W.Frag)(fd:FuncData)(ps:List Str)(ds:List Value):Prop:=
 ∀ (s:Shared) (us:List Value),K.In s.heap->(us++ds).length=ps.length->BindsTo s fd ⟨us,[]⟩ (ps.zip (us++ds))
theorem Binds.all {K:PySem.W.Frag}{fd:FuncData}{ps:List Str}(h:∀ us:List Value,us.length=ps.length->bindArgs fd ⟨us,[]⟩=pure (ps.zip us)):Binds K fd ps []:=λ s us _ hl=>by
 rw[List.append_nil]at hl ⊢
 exact .of_eq (h us hl)
def Passes (CX:CXT)(X:Cx)(E:XK):Prop:=∀ (pins:List (Addr × Obj)) (σ:St) (H:Hp) (s:Shared) (e:Value) (s':Shared),Inv X pins σ H s->CX X.stack H s E e s'->X.xe e s'
section
variable {X:Cx}{CX:CXT}{k:Nat}{f C:Addr}{fd:FuncData}{ps:List Str}{sp:Sp}{dvs:List V}{ds:List Value}{E:XK}{x m:Str}{p pos apos:Pos}{e o:Expr}{es:List Expr}{ta:TE}{t:TA}
theorem run_fn {pins:List (Addr × Obj)}{σ:St}{H:Hp}{s:Shared}{Q:VK}{us:List Value}{vs:List V}(F:FnOk X.prog X.w X.K X.mg X.base CX k f fd ps sp)(hr:Room k X.A)(hb:Binds X.K fd ps ds)(hd:Vals dvs ds)(hx:Passes CX X E)
  (I:Inv X pins σ H s) (r:Vals vs us) (h:sp (vs++dvs) H Q E):wpAny (model X.prog X.w) X.A (call (.ref f) us) (EP X pins σ Q) X.xe s:=by
 have r2:Vals (vs++dvs) (us++ds):=r.append hd
 have hl:(us++ds).length=ps.length:=by rw[<-r2.length];exact F.len _ _ _ _ h
 refine wpAny_call (codeAny_mono (F.run X.A X.stack s H ⟨us,[]⟩ (us++ds) (vs++dvs) Q E hr I.env0 (hb s us I.kIn hl) r2 h) λ r s' hq=>?_)
 cases r with
 | error e=>exact hx pins σ H s e s' I hq
 | ok fl=>
  cases fl with
  | ret u=>exact I.after hq
  | next=>exact False.elim hq
  | brk=>exact False.elim hq
  | cont=>exact False.elim hq
theorem pe_call (F:FnOk X.prog X.w X.K X.mg X.base CX k f fd ps sp)(hr:Room k X.A)(hg:Gl X x)(hm:X.mg x=some (.ref f)) (hk:PySem.W.keepIn X.K (.ref f)=true) (hb:Binds X.K fd ps ds)(hd:Vals dvs ds)(hx:Passes CX X E)
  (ha:PA X (e :: es) t) (hdb:(x == ("__debug__":Str))=false:=by decide) (he:starEach (e :: es) X.env=(false,eval e X.env) :: starEach es X.env:=by rfl) (hpl:(backTo pos (starEach es X.env)).any (·.1)=false:=by rfl) :
  PE X (.Call (.Name x p) (e :: es) [] pos) (tCall sp dvs E t):=by
 intro pins s σ H Q I h
 refine wpAny_Call_Name_kw (ld_glob I hg hm ?_ hdb)
 refine PySem.W.callWith_K (h₀:=X.base) I.ok.mod.kin hk (thn (ha pos pins s σ H _ I h) λ us s1 ⟨vs,H1,I1,r,q⟩=>⟨I1.kIn,?_⟩) he hpl
 exact run_fn F hr hb hd hx I1 r q
structure Mk (K:PySem.W.Frag)(C f:Addr):Prop where
 makes:PySem.W.makesIn K C=true
 init:PySem.W.findIn K (.ref C) "__init__"=some (some (.ref f))
 fn:PySem.W.isFn K (.ref f)=true
 kp:PySem.W.keepIn K (.ref C)=true
end
section
variable {X:Cx}{CX:CXT}{k:Nat}{f C:Addr}{fd:FuncData}{ps ks:List Str}{sp:Sp}{E:XK}{x m:Str}{p pos apos kpos:Pos}{e o:Expr}{es:List Expr}{kws:List Keyword}{te ta:TE}{t tk:TA}{nm:Option Str}
variable {g:List Value->List Value->List Value}{gV:List V->List V->List V}
end
structure FnScope (N P:List Str)(sc:Scope):Prop where
 kind:sc.kind=.function
 co:sc.isCoroutine=false
 gen:sc.isGenerator=false
 nd:N.Nodup
 pre:N.take P.length=P
 par:∀ x∈P,sc.names.lookup x=some .local∨sc.names.lookup x=some .cell
 nofree:∀ y∈sc.names,y.2≠.free
theorem bindL_out {kindOf:Str->Option NameKind}{x:Str}:∀ {binds:List (Str × Value)}{m:Str->Option Value},(∀ v,(x,v)∉binds)->bindL kindOf binds m x=m x
 | [],_,_=>rfl
 | (n,v) :: r,m,h=>by
  unfold bindL
  rw[bindL_out λ w hw=>h w (List.mem_cons_of_mem _ hw)]
  split
  ·have:x≠n:=by rintro rfl;exact h v List.mem_cons_self
   simp[this]
  ·rfl
theorem bindC_out {kindOf:Str->Option NameKind}{x:Str}:∀ {binds:List (Str × Value)}{m:Str->Option Value},(∀ v,(x,v)∉binds)->bindC kindOf binds m x=m x
 | [],_,_=>rfl
 | (n,v) :: r,m,h=>by
  unfold bindC
  rw[bindC_out λ w hw=>h w (List.mem_cons_of_mem _ hw)]
  split
  ·rfl
  ·have:x≠n:=by rintro rfl;exact h v List.mem_cons_self
   simp[this]
theorem bindL_get {kindOf:Str->Option NameKind}{x:Str}{v:Value}:∀ {P:List Str}{vs:List Value}{i:Nat}{m:Str->Option Value},P.Nodup->P[i]? = some x->vs[i]? = some v->kindOf x=some .local->
  bindL kindOf (P.zip vs) m x=some v
 | [],_,_,_,_,h,_,_=>by simp at h
 | _ :: _,[],_,_,_,_,h,_=>by simp at h
 | p :: P,w :: vs,0,m,nd,h1,h2,hk=>by
  simp at h1 h2;subst h1;subst h2
  show bindL kindOf ((p,w) :: P.zip vs) m p=_
  unfold bindL
  rw[bindL_out λ v hv=>(List.nodup_cons.mp nd).1 (List.of_mem_zip hv).1,if_pos hk]
  simp
 | p :: P,w :: vs,i+1,m,nd,h1,h2,hk=>by
  show bindL kindOf ((p,w) :: P.zip vs) m x=_
  unfold bindL
  exact bindL_get (i:=i) (List.nodup_cons.mp nd).2 (by simpa using h1) (by simpa using h2) hk
theorem bindC_get {kindOf:Str->Option NameKind}{x:Str}{v:Value}:∀ {P:List Str}{vs:List Value}{i:Nat}{m:Str->Option Value},P.Nodup->P[i]? = some x->vs[i]? = some v->kindOf x≠some .local->
  bindC kindOf (P.zip vs) m x=some v
 | [],_,_,_,_,h,_,_=>by simp at h
 | _ :: _,[],_,_,_,_,h,_=>by simp at h
 | p :: P,w :: vs,0,m,nd,h1,h2,hk=>by
  simp at h1 h2;subst h1;subst h2
  show bindC kindOf ((p,w) :: P.zip vs) m p=_
  unfold bindC
  rw[bindC_out λ v hv=>(List.nodup_cons.mp nd).1 (List.of_mem_zip hv).1,if_neg hk]
  simp
 | p :: P,w :: vs,i+1,m,nd,h1,h2,hk=>by
  show bindC kindOf ((p,w) :: P.zip vs) m x=_
  unfold bindC
  exact bindC_get (i:=i) (List.nodup_cons.mp nd).2 (by simpa using h1) (by simpa using h2) hk
def start (N:List Str)(vs:List V):St:=vs.map some++List.replicate (N.length - vs.length) none
def cxOf (CX:CXT)(P:Program)(w:World)(K:PySem.W.Frag)(mg:Str->Option Value)(base:Heap)(N:List Str)(qual:Str)(scope:Scope)(f:Addr)(cd:Value)(A:Around)(outer:List Env)(s:Shared)(H:Hp)(E:XK):Cx where
 prog:=P
 w:=w
 K:=K
 mg:=mg
 base:=base
 A:=A.deeper (envOfC qual scope s.heap.objs.size f cd)
 N:=N
 s₀:=s
 H₀:=H
 env:=envOfC qual scope s.heap.objs.size f cd
 outer:=outer
 stack:=envOfC qual scope s.heap.objs.size f cd :: outer
 ex:=[]
 calm:=true
 fn:=λ _=>true
 pn:=[]
 xe:=λ e s'=>wpAny (model P w) (A.deeper (envOfC qual scope s.heap.objs.size f cd)) (leaving (envOfC qual scope s.heap.objs.size f cd) e) (λ _ s''=>CX outer H s E e s'') (λ e' s''=>CX outer H s E e' s'') s'
theorem cell_has {sc:Scope}{n:Nat}{x:Str}(h:sc.names.lookup x=some .cell):∃ c,(cellsFrom n sc.names []).lookup x=some c:=by
 have q:=PySem.W.cellsFrom_some sc.names n [] (.inl h)
 exact Option.isSome_iff_exists.mp q
theorem inv_start {CX:CXT}{P:Program}{w:World}{K:PySem.W.Frag}{mg:Str->Option Value}{base:Heap}{N ps:List Str}{qual:Str}{scope:Scope}{f:Addr}{cd:Value}{A:Around}{outer:List Env}{s s1:Shared}{H:Hp}{E:XK}{us:List Value}{vs:List V}
  (S:FnScope N ps scope) (hd:A.handled=none) (e0:Env0 P w K mg base A outer s H) (hl:vs.length=ps.length) (r:Vals vs us)
  (x:InCallC s s.heap.objs.size (bindL (envOfC qual scope s.heap.objs.size f cd).kindOf (ps.zip us) λ _=>none) (cellsFrom (s.heap.objs.size+1) scope.names []) (bindC (envOfC qual scope s.heap.objs.size f cd).kindOf (ps.zip us) λ _=>none) s1) :
  Inv (cxOf CX P w K mg base N qual scope f cd A outer s H E) [] (start N vs) H s1:=by
 have hpl:ps.length<=N.length:=by have:=congrArg List.length S.pre;rw[List.length_take]at this;omega
 obtain⟨h1,tk,rfl,hk⟩:=x.done
 have noA:∀ b:Addr,b∉(cxOf CX P w K mg base N qual scope f cd A outer s H E).ex:=λ b z=>absurd (show b∈([]:List Addr) from z) (by simp)
 refine⟨⟨e0.mod,S.kind,rfl,rfl,Nat.le_refl _,λ y z c h1 h2=>?_,λ y hy=>?_,λ y c _ h=>?_,λ _=>hd,Around.frames_deeper e0.frames,.inr ⟨rfl,rfl⟩,λ b z=>absurd z (noA b),e0.bs,e0.bsz,λ b _ _=>noA b,λ b z=>absurd z (noA b),e0.funs,e0.frf⟩,
  rfl,e0.bare,Un.kept hk,⟨_,x.toInCall.ns,λ i y v h1 h2 h3=>?_⟩,λ y c h=>⟨_,x.cell y c h⟩,e0.hok.fresh (Nat.le_refl _),λ y c h=>?_,λ p hp=>absurd (show p∈([]:List (Addr × Obj)) from hp) (by simp),e0.hok.kept hk,?_⟩
 ·exact name_of_addr x.apart (PySem.mem_of_lookup h1) (PySem.mem_of_lookup h2)
 ·have hy:scope.names.lookup y=some .cell∨scope.names.lookup y=some .free:=hy
  rcases hy with hy|hy
  ·exact cell_has hy
  ·exact absurd rfl (S.nofree _ (PySem.mem_of_lookup hy))
 ·exact Nat.le_of_lt (x.above y c (PySem.mem_of_lookup h))
 ·have hi:i < vs.length:=by
   unfold start at h2
   by_cases hi:i < vs.length
   ·exact hi
   ·rw[List.getElem?_append_right (by simpa using hi)]at h2
    rw[List.getElem?_replicate]at h2
    split at h2<;>cases h2
  have ha:vs[i]? = some v:=by
   unfold start at h2
   rw[List.getElem?_append_left (by simpa using hi),List.getElem?_map]at h2
   cases e:vs[i]? with
   | none=>rw[e]at h2;cases h2
   | some a=>rw[e]at h2;cases h2;rfl
  obtain⟨u,hu,rv⟩:=r.get ha
  have hp:ps[i]? = some y:=by
   rw[<-S.pre,List.getElem?_take_of_lt (by omega)];exact h1
  have ndP:ps.Nodup:=by rw[<-S.pre];exact S.nd.sublist (List.take_sublist _ _)
  refine⟨u,rv,?_⟩
  rcases S.par y (List.mem_of_getElem? hp) with k|k
  ·exact .inl ⟨k,bindL_get ndP hp hu k⟩
  ·obtain⟨c,e⟩:=cell_has (n:=s.heap.objs.size+1) k
   refine .inr ⟨.inl k,c,e,?_⟩
   have q:=x.cell y c e
   rw[bindC_get ndP hp hu (by show scope.names.lookup y≠_;rw[k];decide)]at q
   exact q
 ·exact e0.hok.fresh (Nat.le_of_lt (x.above y c (PySem.mem_of_lookup h)))
 ·unfold start
  show _=N.length
  rw[List.length_append,List.length_map,List.length_replicate]
  omega
theorem fn_of {CX:CXT}{P:Program}{w:World}{K:PySem.W.Frag}{mg:Str->Option Value}{base:Heap}{k:Nat}{f:Addr}{name qual:Str}{params:Arguments}{body:List Stmt}{scope:Scope}{dV kV doc pm cdv ct oc:Value}{an od:Option Addr}
  {osl:Array (Option Value)}{N ps:List Str}{sp:Sp}(lk:K.lookup f=some ⟨oc,od,.func (PySem.W.fnOf name qual params body scope dV kV doc pm an cdv ct),osl⟩) (hcd:PySem.W.codeIn K cdv qual=true) (S:FnScope N ps scope)
  (len:∀ vs H Q E,sp vs H Q E->vs.length=ps.length)
  (hbody:∀ (A:Around) (outer:List Env) (s:Shared) (H:Hp) (vs:List V) (Q:VK) (E:XK),Room k (A.deeper (envOfC qual scope s.heap.objs.size f cdv))->sp vs H Q E->
   ∃ t,PSs (cxOf CX P w K mg base N qual scope f cdv A outer s H E) body t/\t { nx:=λ _ H'=>Q .non H',rt:=Q } (start N vs) H) :
  FnOk P w K mg base CX (k+1) f (PySem.W.fnOf name qual params body scope dV kV doc pm an cdv ct) ps sp:=by
 refine⟨len,λ A outer s H args us vs Q E hr e0 hb r hsp=>?_⟩
 have hl:=len _ _ _ _ hsp
 have KX:K.In s.heap:=e0.mod.kin.keeps λ b o e=>(e0.bs b o e).1
 have lim:s.heap.NoLimit:=e0.mod.nolimit.keeps λ b o e=>(e0.bs b o e).1
 have hkind:∀ y∈ps.zip us,scope.names.lookup y.1=some .local∨(scope.names.lookup y.1=some .cell/\((cellsFrom (s.heap.objs.size+1) scope.names []).lookup y.1).isSome=true):=λ⟨n,v⟩ hy=>by
  rcases S.par n (List.of_mem_zip hy).1 with q|q
  ·exact .inl q
  ·exact .inr ⟨q,PySem.W.cellsFrom_some _ _ _ (.inl q)⟩
 refine codeAny_call_function hr.depth (KX _ _ lk) rfl S.co S.gen rfl (PySem.W.codeRec_of KX hcd) (hb _ _ _ _ ?_)
 refine wpAny_newFunctionEnv_cells S.kind hkind λ env he s1 x=>?_
 subst he
 refine⟨lim.keeps x.toInCall.keep,codeAny_func ?_⟩
 obtain⟨t,ht,hq⟩:=hbody A outer s H vs Q E (hr.deeper _) hsp
 have I:Inv (cxOf CX P w K mg base N qual scope f cdv A outer s H E) [] (start N vs) H s1:=inv_start S hr.hd e0 hl r x
 refine wpAny_mono (ht [] s1 (start N vs) H _ I hq) (λ fl s' hs=>?_) λ e s' hs=>hs
 have fin:∀ {σ':St}{H':Hp}{v:V}{u:Value},Inv (cxOf CX P w K mg base N qual scope f cdv A outer s H E) [] σ' H' s'->RelV v u->Q v H'->CE outer P w H s Q u s':=
  λ {σ' H' v u} J rv q=>⟨v,H',J.os,J.bare,J.base,J.hok,rv,q⟩
 cases fl with
 | ret u=>
  obtain⟨v,σ',H',J,rv,q⟩:=hs
  exact fin J rv q
 | next=>
  obtain⟨σ',H',J,q⟩:=hs
  exact fin (v:=V.non) (u:=Value.none) J rfl q
 | brk=>
  obtain⟨_,_,_,q⟩:=hs
  exact False.elim q
 | cont=>
  obtain⟨_,_,_,q⟩:=hs
  exact False.elim q
end L2
namespace L2
open PySem PySem.Spec PyProof.Rows
section
variable {X:Cx}{x:Str}{p pos:Pos}{e:Expr}{es:List Expr}{t:TA}{id T:String}{r:List V->Hp->VK->Prop}
def tCB (r:List V->Hp->VK->Prop)(t:TA):TE:=λ σ H Q=>t σ H λ vs H1=>r vs H1 Q
theorem pe_callB (hc:CallR X (.builtin id) r) (hg:Gl X x)(hm:X.mg x=none)(hv:bootBuiltins x=some (.builtin id)) (ha:PA X (e :: es) t) (hn:x≠"__name__":=by decide)(hdb:(x == ("__debug__":Str))=false:=by decide)
  (he:starEach (e :: es) X.env=(false,eval e X.env) :: starEach es X.env:=by rfl) (hpl:(backTo pos (starEach es X.env)).any (·.1)=false:=by rfl):PE X (.Call (.Name x p) (e :: es) [] pos) (tCB r t):=by
 intro pins s σ H Q I h
 refine wpAny_Call_Name_kw (ld_blt I hg hm hv ?_ hn hdb)
 exact PyProof.Rows.callWith_builtin1 (thn (ha pos pins s σ H _ I h) λ us s1 ⟨vs,H1,I1,r1,q1⟩=>hc pins s1 σ H1 vs us Q I1 r1 q1) he hpl
theorem pe_callTy (hc:CallR X (.type T) r) (hg:Gl X x)(hm:X.mg x=none)(hv:bootBuiltins x=some (.type T)) (ha:PA X (e :: es) t) (hn:x≠"__name__":=by decide)(hdb:(x == ("__debug__":Str))=false:=by decide)
  (he:starEach (e :: es) X.env=(false,eval e X.env) :: starEach es X.env:=by rfl) (hpl:(backTo pos (starEach es X.env)).any (·.1)=false:=by rfl):PE X (.Call (.Name x p) (e :: es) [] pos) (tCB r t):=by
 intro pins s σ H Q I h
 refine wpAny_Call_Name_kw (ld_blt I hg hm hv ?_ hn hdb)
 exact PyProof.Rows.callWith_type1 (thn (ha pos pins s σ H _ I h) λ us s1 ⟨vs,H1,I1,r1,q1⟩=>hc pins s1 σ H1 vs us Q I1 r1 q1) he hpl
end
end L2
namespace HT
open PySem PyProof.Rows
section
open PySem.SeqAt
open PySem.AutoSeq1 (wpAny_loadPart')
open PySem.MeetsSeq PySem.MeetsSeq2 PySem.MeetsSeq3
end
section
variable {prog:Program}{w:World}{A:Around}{E:Value->Shared->Prop}{s:Shared}
theorem cat_tup {t b:Addr}{vs ws:List Value}{Q:Value->Shared->Prop}(ht:IsTup s.heap t vs.toArray)(hb:IsTup s.heap b ws.toArray)(hv:vs≠[])
  (h1:ws=[]->Q (.ref t) s) (h2:ws≠[]->Q (.ref s.heap.objs.size) { s with heap:=s.heap.push { cls:=.type "tuple",data:=.seq (vs++ws).toArray } })
  (hsz:vs.length+ws.length<=sizeLine):wpAny (model prog w) A (binaryOp .Add (.ref t) (.ref b)) Q E s:=by
 obtain⟨⟨cls,dd,data,sl⟩,ho,hc,n,hd⟩:=id ht
 obtain⟨⟨cls2,dd2,data2,sl2⟩,ho2,hc2,n2,hd2⟩:=id hb
 simp only at hc hd hc2 hd2
 subst hc hd hc2 hd2
 have e:vs.toArray++ws.toArray=(vs++ws).toArray:=by simp
 by_cases hw:ws=[]
 ·exact concat_meets ⟨_,ho,rfl⟩ ⟨_,ho2,rfl⟩ noFill_tuple_add seq_tuple_add PySem.F.slot_tuple_add PySem.F.entry_tuple_add (PySem.F.args_tuple_add_2 _ _)
   (tuple_addW1 t b vs.toArray ws.toArray n n2 dd dd2 sl sl2 (by simpa using hv) (by simp[hw])) ⟨ho,ho2,h1 hw⟩
 ·refine concat_meets ⟨_,ho,rfl⟩ ⟨_,ho2,rfl⟩ noFill_tuple_add seq_tuple_add PySem.F.slot_tuple_add PySem.F.entry_tuple_add (PySem.F.args_tuple_add_2 _ _)
   (tuple_addW2 t b vs.toArray ws.toArray n n2 dd dd2 sl sl2 (by simpa using hv) (by simpa using hw) (by rw[List.size_toArray,List.size_toArray];exact hsz)) ⟨ho,ho2,?_⟩
  rw[e]
  exact h2 hw
def sIx (n d:Nat):Option Int->Nat
 | none=>d
 | some v=>if v < 0 then (v+(n:Int)).toNat else min v.toNat n
theorem sIx_nat (n d k:Nat):sIx n d (some (k:Int))=min k n:=by
 show(if (k:Int) < 0 then ((k:Int)+(n:Int)).toNat else min (k:Int).toNat n)=min k n
 rw[if_neg (by omega),Int.toNat_natCast]
theorem sIx_le (n d:Nat)(hd:d<=n)(o:Option Int):sIx n d o<=n:=by
 cases o with
 | none=>exact hd
 | some v=>
  show(if v < 0 then (v+(n:Int)).toNat else min v.toNat n)<=n
  by_cases hv:v < 0
  ·rw[if_pos hv];omega
  ·rw[if_neg hv];exact Nat.min_le_right _ _
theorem clip_eq (v:Int)(n d:Nat):(if v < 0 then max (v+(n:Int)) 0 else min v (n:Int))=((sIx n d (some v):Nat):Int):=by
 show(if v < 0 then max (v+(n:Int)) 0 else min v (n:Int))=(((if v < 0 then (v+(n:Int)).toNat else min v.toNat n):Nat):Int)
 by_cases hv:v < 0
 ·simp only[if_pos hv];omega
 ·simp only[if_neg hv];omega
theorem adjust_gen (lo hi:Option Int)(n:Nat):Builtin.Slice.sliceAdjust lo hi 1 (n:Int)=(((sIx n 0 lo:Nat):Int),((sIx n n hi:Nat):Int)):=by
 have h1:¬ ((1:Int) < 0):=by omega
 unfold Builtin.Slice.sliceAdjust
 simp only[h1,if_false]
 refine Prod.ext ?_ ?_
 ·cases lo with
  | none=>rfl
  | some v=>exact clip_eq v n 0
 ·cases hi with
  | none=>rfl
  | some v=>exact clip_eq v n n
theorem places_gen (i j:Nat):Builtin.Slice.slicePlaces (i:Int) (j:Int) 1=j - i:=by
 unfold Builtin.Slice.slicePlaces
 have h1:(1:Int) > 0:=by omega
 simp only[h1,if_true,Int.ediv_one]
 split<;>omega
theorem slicePart_ {v:Value}{o:Option Int}{Q:Option Int->Shared->Prop}(p:IsPart v o)(h:Q o s):wpAny (model prog w) A (Builtin.Slice.slicePartIndex v) Q E s:=by
 cases p with
 | none=>exact slicePart_none h
 | int i t=>exact slicePart_int h
theorem sliceApplied_gen {sl:Addr}{vl vu:Value}{lo hi:Option Int}{n:Nat}{Q:Int × Int × Nat->Shared->Prop}(hs:s.heap.IsSliceOf sl vl vu .none)(pl:IsPart vl lo)(pu:IsPart vu hi)
  (h:Q (((sIx n 0 lo:Nat):Int),1,sIx n n hi - sIx n 0 lo) s):wpAny (model prog w) A (Builtin.Slice.sliceApplied (.ref sl) (pure (n:Int))) Q E s:=by
 obtain⟨os,hos,hcs,hds⟩:=id hs
 unfold Builtin.Slice.sliceApplied Builtin.Slice.sliceFields
 refine wpAny_bind (wpAny_bind (wpAny_field hos hds (x:=vl) rfl (wpAny_bind (wpAny_field hos hds (x:=vu) rfl (wpAny_bind (wpAny_field hos hds (x:=.none) rfl (wpAny_pure ?_)))))))
 refine wpAny_bind (slicePart_none ?_)
 show wpAny _ _ (if ((1:Int) == 0)=true then _ else _) _ _ s
 rw[if_neg (by decide)]
 refine wpAny_bind (slicePart_ pl (wpAny_bind (slicePart_ pu (wpAny_bind (wpAny_pure ?_)))))
 show wpAny _ _ (match Builtin.Slice.sliceAdjust lo hi 1 (n:Int) with|(lo,hi)=>pure (lo,(1:Int),Builtin.Slice.slicePlaces lo hi 1)) _ _ s
 rw[adjust_gen lo hi n]
 show wpAny _ _ (pure (((sIx n 0 lo:Nat):Int),(1:Int),Builtin.Slice.slicePlaces ((sIx n 0 lo:Nat):Int) ((sIx n n hi:Nat):Int) 1)) _ _ s
 rw[places_gen]
 exact wpAny_pure h
theorem pick_gen (xs:Array Value)(i k:Nat):((List.range k).filterMap λ(m:Nat)=>xs[((i:Int)+(m:Int) * 1).toNat]?).toArray=((xs.toList.drop i).take k).toArray:=by
 have e:(λ(m:Nat)=>xs[((i:Int)+(m:Int) * 1).toNat]?)=λ m=>xs[i+m]?:=by
  funext m
  have:((i:Int)+(m:Int) * 1).toNat=i+m:=by omega
  rw[this]
 rw[e]
 have:=pick_run xs i k
 rw[List.filterMap_map]at this
 have e2:((λ x=>xs[x]?) ∘ λ x=>i+x)=λ m=>xs[i+m]?:=rfl
 rw[e2]at this
 rw[this]
theorem getItem_tuple_cut {t sl:Addr}{items:Array Value}{vl vu:Value}{lo hi:Option Int}{Q:Value->Shared->Prop}(ht:IsTup s.heap t items)(hs:s.heap.IsSliceOf sl vl vu .none)(pl:IsPart vl lo)(pu:IsPart vu hi)
  (hw:¬ (sIx items.size 0 lo=0/\sIx items.size items.size hi=items.size))
  (h:Q (.ref s.heap.objs.size) { s with heap:=s.heap.push { cls:=.type "tuple",data:=.seq ((items.toList.drop (sIx items.size 0 lo)).take (sIx items.size items.size hi - sIx items.size 0 lo)).toArray } })
  (hsz:items.size<=sizeLine):wpAny (model prog w) A (getItem (.ref t) (.ref sl)) Q E s:=by
 have htake:sizeOk (.seq ((items.toList.drop (sIx items.size 0 lo)).take (sIx items.size items.size hi - sIx items.size 0 lo)).toArray):=by
  show((items.toList.drop (sIx items.size 0 lo)).take (sIx items.size items.size hi - sIx items.size 0 lo)).toArray.size<=sizeLine
  rw[List.size_toArray,List.length_take,List.length_drop,Array.length_toList]
  omega
 have hj:sIx items.size items.size hi<=items.size:=sIx_le _ _ (Nat.le_refl _) hi
 obtain⟨os,hos,hcs,hds⟩:=id hs
 have hTs:s.TypeIs (.ref sl) "slice":=⟨os,hos,hcs⟩
 unfold getItem
 try with_reducible refine wpAny_holding ?_
 first|refine wpAny_bind (wpAny_pure ?_)|skip
 refine wpAny_bind (wpAny_sequenceKey ht.typeIs (by decide) ?_)
 refine wpAny_bind (wpAny_callSpecial?_slot (name:=Str.ofString "__getitem__") ht.typeIs PyProof.Rows.slot_tuple_getitem
  (wpAny_call_entry PyProof.Rows.slot_tuple_getitem ht.typeIs entry_tuple_getitem ?_ (args_tuple_getitem _ _)))
 show wpAny _ _ (Builtin.Tuple.tupleItemsOf (.ref t) >>= _) _ _ s
 refine wpAny_bind (tupleItemsOf_ ht ?_)
 refine wpAny_bind (wpAny_typeOf hTs ?_)
 rw[if_pos (by decide)]
 refine wpAny_bind (sliceApplied_gen hs pl pu ?_)
 have hno:¬ ((((sIx items.size 0 lo:Nat):Int) == 0 && (1:Int) == 1 && (sIx items.size items.size hi - sIx items.size 0 lo) == items.size)=true):=by
  intro q
  rw[Bool.and_eq_true,Bool.and_eq_true]at q
  have q1:((sIx items.size 0 lo:Nat):Int)=0:=eq_of_beq q.1.1
  have q2:sIx items.size items.size hi - sIx items.size 0 lo=items.size:=eq_of_beq q.2
  exact hw ⟨by omega,by omega⟩
 show wpAny _ _ (if (((sIx items.size 0 lo:Nat):Int) == 0 && (1:Int) == 1 && (sIx items.size items.size hi - sIx items.size 0 lo) == items.size)=true then _ else _) _ _ s
 rw[if_neg hno,pick_gen]
 first
  | exact wpAny_bind (m:=Builtin.Tuple.tupleExact _) (wpAny_newObj_type (wpAny_pure ⟨_,rfl,wpAny_pure h⟩) htake)
  | exact wpAny_bind (m:=Builtin.Tuple.tupleExact _) (wpAny_newObj_type (wpAny_bind (wpAny_pure (wpAny_pure ⟨_,rfl,wpAny_pure h⟩))) htake)
  | exact wpAny_bind (wpAny_bind (m:=Builtin.Tuple.tupleExact _) (wpAny_newObj_type (wpAny_pure (wpAny_pure ⟨_,rfl,wpAny_pure h⟩)) htake))
  | exact wpAny_bind (wpAny_bind (m:=Builtin.Tuple.tupleExact _) (wpAny_newObj_type (wpAny_pure ⟨_,rfl,wpAny_pure h⟩) htake))
end
end HT
namespace L2
open PySem PySem.Spec PyProof.Rows
abbrev TO:=St->Hp->(Option Int->Hp->Prop)->Prop
def PO (X:Cx)(e:Option Expr)(t:TO):Prop:=
 ∀ (pins:List (Addr × Obj)) (s:Shared) (σ:St) (H:Hp) (Q:Option Int->Hp->Prop),Inv X pins σ H s->t σ H Q->
  wpAny (model X.prog X.w) X.A (evalPart e X.env) (λ u s'=>∃ o H',Inv X pins σ H' s'/\IsPart u o/\Q o H') X.xe s
def tNoPart:TO:=λ _ H Q=>Q none H
def tPart (t:TE):TO:=λ σ H Q=>t σ H λ x H1=>∃ i,x=.int i/\Q (some i) H1
section
variable {X:Cx}{e:Expr}{te:TE}{lo hi:Option Expr}{tl th:TO}{pos p2:Pos}
theorem po_none:PO X none tNoPart:=by
 intro pins s σ H Q I h
 rw[evalPart_none]
 exact wpAny_pure ⟨none,H,I,.none,h⟩
theorem po_some (h:PE X e te):PO X (some e) (tPart te):=by
 intro pins s σ H Q I hw
 rw[evalPart_some]
 refine thn (h pins s σ H _ I hw) λ u s1 ⟨x,H1,I1,r1,q1⟩=>?_
 obtain⟨i,rfl,q⟩:=q1
 obtain⟨t,rfl⟩:=r1
 exact⟨some i,H1,I1,.int i t,q⟩
def SlR (X:Cx)(r:V->Option Int->Option Int->Hp->VK->Prop):Prop:=
 ∀ (pins:List (Addr × Obj)) (s:Shared) (σ:St) (H:Hp) (x:V) (v vl vu:Value) (lo hi:Option Int) (sl:Addr) (Q:VK),Inv X pins σ H s->RelV x v->s.heap.IsSliceOf sl vl vu .none->IsPart vl lo->IsPart vu hi->r x lo hi H Q->
  ∃ T id,typeLookup (.type T) "__getitem__"=pure (some (.builtin id))/\s.TypeIs v T/\wpAny (model X.prog X.w) X.A (getItem v (.ref sl)) (EP X pins σ Q) X.xe s
def tSl (r:V->Option Int->Option Int->Hp->VK->Prop)(te:TE)(tl th:TO):TE:=λ σ H Q=>te σ H λ x H1=>tl σ H1 λ l H2=>th σ H2 λ u H3=>r x l u H3 Q
theorem pe_slice {r:V->Option Int->Option Int->Hp->VK->Prop}(hr:SlR X r)(he:PE X e te)(hl:PO X lo tl)(hu:PO X hi th):PE X (.Subscript e (.Slice lo hi none p2) pos) (tSl r te tl th):=by
 intro pins s σ H Q I h
 refine Subscript_ (thn (he pins s σ H _ I h) λ v s1 ⟨x,H1,I1,r1,q1⟩=>?_)
 refine wpAny_Slice (thn (hl pins s1 σ H1 _ I1 q1) λ vl s2 ⟨l,H2,I2,pl,q2⟩=>thn (hu pins s2 σ H2 _ I2 q2) λ vu s3 ⟨u,H3,I3,pu,q3⟩=>?_)
 rw[evalPart_none]
 refine wpAny_pure ?_
 have I4:Inv X pins σ H3 { s3 with heap:=s3.heap.push { cls:=.type "slice",data:=.fields #[vl,vu,.none] } }:=I3.kept (t':=s3.toks) λ b ob q=>Heap.get?_push_of_some _ q
 obtain⟨T,id,hT,ht,hg⟩:=hr pins { s3 with heap:=s3.heap.push { cls:=.type "slice",data:=.fields #[vl,vu,.none] } } σ H3 x v vl vu l u s3.heap.objs.size Q I4 r1 (Heap.IsSliceOf.new ..) pl pu q3
 show wpAny (model X.prog X.w) X.A (subscriptTail e (.Slice lo hi none p2) v (.ref s3.heap.objs.size)) (EP X pins σ Q) X.xe { s3 with heap:=s3.heap.push { cls:=.type "slice",data:=.fields #[vl,vu,.none] } }
 exact tail_any (ops:=[.ref s3.heap.objs.size,v]) ht hT hg (by with_unfolding_all rfl)
def cutV (xs:List V)(lo hi:Option Int):List V:=(xs.drop (HT.sIx xs.length 0 lo)).take (HT.sIx xs.length xs.length hi - HT.sIx xs.length 0 lo)
theorem cutV_length (xs:List V)(lo hi:Option Int):(cutV xs lo hi).length<=xs.length:=by
 unfold cutV
 rw[List.length_take,List.length_drop]
 omega
def rSlT (K:PySem.W.Frag):V->Option Int->Option Int->Hp->VK->Prop:=λ x lo hi H Q=>∃ a xs,x=.ref a/\SqT K H a xs/\
 ¬ (HT.sIx xs.length 0 lo=0/\HT.sIx xs.length xs.length hi=xs.length)/\∀ p,H p=none->Q (.ref p) (upd H p (.tup (cutV xs lo hi)))
theorem sl_tup:SlR X (rSlT X.K):=by
 intro pins s σ H x v vl vu lo hi sl Q I rx hs pl pu h
 obtain⟨a,xs,rfl,hx,hw,q⟩:=h
 cases rx
 obtain⟨its,r,ht,hz⟩:=I.tuple hx
 have hlen:its.toArray.size=xs.length:=by rw[List.size_toArray];exact r.length.symm
 refine⟨"tuple",_,PyProof.Rows.slot_tuple_getitem.lookup,ht.typeIs,?_⟩
 refine HT.getItem_tuple_cut ht hs pl pu (by rw[hlen];exact hw) ?_ (by rw[hlen];exact hz)
 rw[hlen]
 refine⟨.ref s.heap.objs.size,_,I.laid (t':=s.toks) (o:=.tup (cutV xs lo hi)) (λ b ob q=>Heap.get?_push_of_some _ q) (Nat.le_refl _) ?_,rfl,q _ (I.hok.fresh (Nat.le_refl _))⟩
 exact⟨Nat.le_trans (cutV_length xs lo hi) hz,_,(r.drop (HT.sIx xs.length 0 lo)).take (HT.sIx xs.length xs.length hi - HT.sIx xs.length 0 lo),IsTup.new _ _⟩
def rCatT (K:PySem.W.Frag):R2:=λ x y H Q=>∃ a b xs ys,x=.ref a/\y=.ref b/\SqT K H a xs/\SqT K H b ys/\xs≠[]/\xs.length+ys.length<=sizeLine/\
 (ys=[]->Q (.ref a) H)/\(ys≠[]->∀ p,H p=none->Q (.ref p) (upd H p (.tup (xs++ys))))
theorem Vals.nil_iff {xs:List V}{us:List Value}(r:Vals xs us):us=[] ↔ xs=[]:=by
 cases r with
 | nil=>simp
 | cons _ _=>simp
theorem op_catT:OpR X (binaryOp .Add) (rCatT X.K):=by
 intro pins s σ H x y v u Q I rx ry h
 obtain⟨a,b,xs,ys,rfl,rfl,ha,hb,hx,hz,q1,q2⟩:=h
 cases rx
 cases ry
 obtain⟨its,r1,p1,_⟩:=I.tuple ha
 obtain⟨its2,r2,p2,_⟩:=I.tuple hb
 refine HT.cat_tup p1 p2 (λ z=>hx (r1.nil_iff.mp z)) (λ z=>⟨.ref a,H,I,rfl,q1 (r2.nil_iff.mp z)⟩) (λ z=>?_) (by rw[<-r1.length,<-r2.length];exact hz)
 refine⟨.ref s.heap.objs.size,_,I.laid (t':=s.toks) (o:=.tup (xs++ys)) (λ b ob q=>Heap.get?_push_of_some _ q) (Nat.le_refl _) ?_,rfl,q2 (λ w=>z (r2.nil_iff.mpr w)) _ (I.hok.fresh (Nat.le_refl _))⟩
 exact⟨by rw[List.length_append];exact hz,_,r1.append r2,IsTup.new _ _⟩
end
end L2
namespace L2
open PySem PySem.Spec PyProof.Rows
def ixN (n:Nat)(i:Int):Option Nat:=if 0<=i then (if i < n then some i.toNat else none) else if -(n:Int)<=i then some (i+n).toNat else none
def atI {α:Type}(xs:List α)(i:Int):Option α:=(ixN xs.length i).bind λ j=>xs[j]?
theorem ixN_seq {n:Nat}{i:Int}{j:Nat}(h:ixN n i=some j):seqIndex? i n=some j/\j < n/\-(n:Int)<=i/\i < n:=by
 unfold ixN at h
 by_cases h0:0<=i
 ·rw[if_pos h0]at h
  by_cases h1:i < n
  ·rw[if_pos h1]at h
   have e:i.toNat=j:=Option.some.inj h
   exact⟨by rw[seqIndex_of h0 h1,e],by omega,by omega,h1⟩
  ·rw[if_neg h1]at h;cases h
 ·rw[if_neg h0]at h
  by_cases h1:-(n:Int)<=i
  ·rw[if_pos h1]at h
   have e:(i+n).toNat=j:=Option.some.inj h
   exact⟨by rw[seqIndex_neg (by omega) h1,e],by omega,h1,by omega⟩
  ·rw[if_neg h1]at h;cases h
theorem atI_get {α:Type}{xs:List α}{i:Int}{v:α}(h:atI xs i=some v):∃ j,seqIndex? i xs.length=some j/\xs[j]? = some v/\j < xs.length/\-(xs.length:Int)<=i/\i < xs.length:=by
 unfold atI at h
 cases e:ixN xs.length i with
 | none=>rw[e]at h;cases h
 | some j=>
  rw[e]at h
  obtain⟨h1,h2,h3,h4⟩:=ixN_seq e
  exact⟨j,h1,h,h2,h3,h4⟩
theorem atI_nat {α:Type}{xs:List α}{j:Nat}{v:α}(h:xs[j]? = some v):atI xs (j:Int)=some v:=by
 have hj:j < xs.length:=(List.getElem?_eq_some_iff.mp h).1
 have e:ixN xs.length (j:Int)=some j:=by
  unfold ixN
  rw[if_pos (by omega),if_pos (by omega)];simp
 unfold atI;rw[e];exact h
def PlainIx (b:Expr):Prop:=∀ o i,subscripted b false o i=operate [o,i] (getItem o i)
def IxR (X:Cx)(r:R2):Prop:=
 ∀ (value slice:Expr) (pins:List (Addr × Obj)) (s:Shared) (σ:St) (H:Hp) (x y:V) (v u:Value) (Q:VK),Inv X pins σ H s->RelV x v->RelV y u->r x y H Q->
  subscripted slice false v u=operate [v,u] (getItem v u)->wpAny (model X.prog X.w) X.A (subscriptTail value slice v u) (EP X pins σ Q) X.xe s
def MtR (X:Cx)(id:String)(r:V->List V->Hp->VK->Prop):Prop:=
 ∀ (pins:List (Addr × Obj)) (s:Shared) (σ:St) (H:Hp) (x:V) (xs:List V) (v:Value) (us:List Value) (Q:VK),Inv X pins σ H s->RelV x v->Vals xs us->r x xs H Q->
  wpAny (model X.prog X.w) X.A (call (.builtin id) (v :: us)) (EP X pins σ Q) X.xe s
section
variable {X:Cx}{a b:Expr}{ta tb:TE}{pos:Pos}
theorem pe_ix {r:R2}(hr:IxR X r)(ha:PE X a ta)(hb:PE X b tb)(hs:PlainIx b):PE X (.Subscript a b pos) (tOp r ta tb):=by
 intro pins s σ H Q I h
 exact Subscript_ (binT ha hb I h λ v u s2 x y H2 I2 rx ry q=>hr a b pins s2 σ H2 x y v u Q I2 rx ry q (hs _ _))
def rIxL (K:PySem.W.Frag):R2:=λ x y H Q=>∃ p xs i v,x=.ref p/\y=.int i/\SqL K H p xs/\atI xs i=some v/\Q v H
def rIxT (K:PySem.W.Frag):R2:=λ x y H Q=>∃ p xs i v,x=.ref p/\y=.int i/\SqT K H p xs/\atI xs i=some v/\Q v H
def rIxS:R2:=λ x y H Q=>∃ z i c,x=.str z/\y=.int i/\z.length<=sizeLine/\atI z.cps.toList i=some c/\Q (.str ⟨#[c]⟩) H
theorem ix_list:IxR X (rIxL X.K):=by
 intro value slice pins s σ H x y v u Q I rx ry h hs
 obtain⟨p,xs,i,z,rfl,rfl,hq,he,q⟩:=h
 cases rx
 obtain⟨t,rfl⟩:=ry
 obtain⟨its,r,pl,hz⟩:=I.list hq
 obtain⟨j,h1,h2,h3,h4,h5⟩:=atI_get he
 obtain⟨w,ew,rw'⟩:=r.get h2
 have hl:=r.length
 have hn:=line63
 have fin:EP X pins σ Q w s:=⟨z,H,I,rw',q⟩
 by_cases h0:0<=i
 ·have hj:i.toNat=j:=by
   rw[seqIndex_of h0 h5]at h1
   exact Option.some.inj h1
  exact item_listR pl.isList h0 (by omega) (by rw[hj];simpa using ew) fin hs
 ·have hj:(i+(its.toArray.size:Int)).toNat=j:=by
   rw[seqIndex_neg (by omega) h4]at h1
   rw[List.size_toArray,<-hl]
   exact Option.some.inj h1
  exact subscriptTail_builtinR (x:=w) pl.isList.typeIs slot_list_getitem.lookup
   (wpAny_getItem_list_neg (Q:=λ r s'=>r=w/\EP X pins σ Q r s') pl.isList (by omega) (by rw[List.size_toArray]<;>omega) (by omega) (by rw[hj];simpa using ew) ⟨rfl,fin⟩) hs
theorem ix_tup:IxR X (rIxT X.K):=by
 intro value slice pins s σ H x y v u Q I rx ry h hs
 obtain⟨p,xs,i,z,rfl,rfl,hq,he,q⟩:=h
 cases rx
 obtain⟨t,rfl⟩:=ry
 obtain⟨its,r,pl,hz⟩:=I.tuple hq
 obtain⟨j,h1,h2,h3,h4,h5⟩:=atI_get he
 obtain⟨w,ew,rw'⟩:=r.get h2
 have hl:=r.length
 have hn:=line63
 have fin:EP X pins σ Q w s:=⟨z,H,I,rw',q⟩
 exact subscriptTail_builtinR (x:=w) pl.typeIs slot_tuple_getitem.lookup
  (getItem_tuple (j:=j) (Q:=λ r s'=>r=w/\EP X pins σ Q r s') pl (by omega) (by omega) (by rw[List.size_toArray,<-hl];exact h1) (by simpa using ew) ⟨rfl,fin⟩) hs
theorem ix_str:IxR X rIxS:=by
 intro value slice pins s σ H x y v u Q I rx ry h hs
 obtain⟨z,i,c,rfl,rfl,hz,he,q⟩:=h
 obtain⟨t,rfl⟩:=rx
 obtain⟨t',rfl⟩:=ry
 obtain⟨j,h1,h2,h3,h4,h5⟩:=atI_get he
 have hl:z.cps.toList.length=z.length:=by simp[Str.length]
 rw[hl]at h1 h4 h5
 have hn:=line63
 exact tail_any (typeIs_str s z t) slot_str_getitem.lookup (getItem_str (c:=c) (by
  have e1:decide (i < -(2 ^ 63:Int))=false:=decide_eq_false (by omega)
  have e2:decide (i ≥ 2 ^ 63)=false:=decide_eq_false (by omega)
  rw[e1,e2,Bool.or_false]) (by rw[h1];simpa using h2) ⟨.str ⟨#[c]⟩,H,I.tok _,⟨_,rfl⟩,q⟩) hs
theorem mapSeq_set (its:List Value)(n j:Nat)(u:Value):Obj.mapSeq (·.setIfInBounds j u) { cls:=.type "list",data:=.seq its.toArray n }={ cls:=.type "list",data:=.seq (its.set j u).toArray n }:=by
 simp[Obj.mapSeq]
theorem Inv.lst {pins:List (Addr × Obj)}{σ:St}{H:Hp}{s:Shared}{p:Addr}{xs:List V}(I:Inv X pins σ H s)(h:H p=some (.lst xs)) :
  ∃ (its:List Value) (n:Nat),Vals xs its/\s.heap.get? p=some { cls:=.type "list",data:=.seq its.toArray n }/\xs.length<=sizeLine:=by
 obtain⟨z,its,n,r,e⟩:=I.hok p _ h
 exact⟨its,n,r,e,z⟩
theorem Inv.lstUpd {pins:List (Addr × Obj)}{σ:St}{H:Hp}{s:Shared}{p:Addr}{xs ys:List V}{its its':List Value}{n n':Nat}{f:Obj->Obj}(I:Inv X pins σ H s)(h:H p=some (.lst xs))
  (ho:s.heap.get? p=some { cls:=.type "list",data:=.seq its.toArray n }) (hf:f { cls:=.type "list",data:=.seq its.toArray n }={ cls:=.type "list",data:=.seq its'.toArray n' }) (r:Vals ys its') (hz:ys.length<=sizeLine) (t:Nat) :
  Inv X pins σ (upd H p (.lst ys)) { s with heap:=s.heap.update p f,toks:=t }:=by
 have e:(s.heap.update p f).get? p=some { cls:=.type "list",data:=.seq its'.toArray n' }:=by
  rw[Heap.get?_update_self f ho (by rw[hf]<;>rfl),hf]
 refine I.write (x:=p) (e:=p) (by rw[h];trivial) (.inl rfl) (λ b u hb q=>(Heap.get?_update_other _ _ (Ne.symm hb)).trans q) ⟨_,e⟩ ?_
 exact⟨hz,its',n',r,e⟩
def rSetL:V->V->V->Hp->(Hp->Prop)->Prop:=λ o i v H Q=>∃ p xs k j,o=.ref p/\i=.int k/\H p=some (.lst xs)/\ixN xs.length k=some j/\Q (upd H p (.lst (xs.set j v)))
theorem set_list:PSet X rSetL:=by
 intro pins s σ H o i v ov iv u Q I ro ri rv h
 obtain⟨p,xs,k,j,rfl,rfl,hp,hj,q⟩:=h
 cases ro
 obtain⟨t,rfl⟩:=ri
 obtain⟨its,n,r,ho,hz⟩:=I.lst hp
 obtain⟨h1,h2,h3,h4⟩:=ixN_seq hj
 have hl:=r.length
 have hn:=line63
 have I':Inv X pins σ (upd H p (.lst (xs.set j v))) { s with heap:=s.heap.update p (Obj.mapSeq (·.setIfInBounds j u)) }:=
  I.lstUpd hp ho (mapSeq_set its n j u) (r.set rv j) (by rw[List.length_set];exact hz) s.toks
 by_cases h0:0<=k
 ·have hk:k.toNat=j:=by
   rw[seqIndex_of h0 h4]at h1
   exact Option.some.inj h1
  exact PySem.W.ki_setAt ho h0 (by omega) (by rw[List.size_toArray,<-hl];exact h4) (by rw[hk];exact⟨_,I',q⟩)
 ·have hk:(k+(its.toArray.size:Int)).toNat=j:=by
   rw[seqIndex_neg (by omega) h3]at h1
   rw[List.size_toArray,<-hl]
   exact Option.some.inj h1
  exact PySem.W.ki_setBack ho (by omega) (by rw[List.size_toArray,<-hl];exact h3) (by omega) (by rw[hk];exact⟨_,I',q⟩)
theorem slice_bounds (lo hi:Option Int)(n:Nat):(sliceBounds lo hi none n).1=((HT.sIx n 0 lo:Nat):Int)/\(sliceBounds lo hi none n).2.1=((HT.sIx n n hi:Nat):Int)/\(sliceBounds lo hi none n).2.2=1:=by
 refine⟨?_,?_,rfl⟩
 ·cases lo with
  | none=>simp[sliceBounds,HT.sIx]
  | some i=>
   simp only[sliceBounds,HT.sIx,Option.getD_none,show(1:Int) > 0 by decide,if_true]
   by_cases h:i < 0
   ·simp only[h,if_true]<;>omega
   ·simp only[h,if_false]<;>omega
 ·cases hi with
  | none=>simp[sliceBounds,HT.sIx]
  | some i=>
   simp only[sliceBounds,HT.sIx,Option.getD_none,show(1:Int) > 0 by decide,if_true]
   by_cases h:i < 0
   ·simp only[h,if_true]<;>omega
   ·simp only[h,if_false]<;>omega
theorem slicePick_cut (its:List Value)(lo hi:Option Int):slicePick its.toArray lo hi none=((its.drop (HT.sIx its.length 0 lo)).take (HT.sIx its.length its.length hi - HT.sIx its.length 0 lo)).toArray:=by
 obtain⟨h1,h2,h3⟩:=slice_bounds lo hi its.toArray.size
 unfold slicePick
 rw[h1,h2,h3]
 simp only[sliceRange_one,pick_run,List.size_toArray]<;>rfl
def rSlL (K:PySem.W.Frag):V->Option Int->Option Int->Hp->VK->Prop:=λ x lo hi H Q=>∃ a xs,x=.ref a/\SqL K H a xs/\∀ p,H p=none->Q (.ref p) (upd H p (.lst (cutV xs lo hi)))
theorem sl_list:SlR X (rSlL X.K):=by
 intro pins s σ H x v vl vu lo hi sl Q I rx hs pl pu h
 obtain⟨a,xs,rfl,hx,q⟩:=h
 cases rx
 obtain⟨its,r,ht,hz⟩:=I.list hx
 have hlen:=r.length
 refine⟨"list",_,slot_list_getitem.lookup,ht.isList.typeIs,?_⟩
 refine wpAny_getItem_list_slice ht.isList hs pl pu .none (by simp) ?_ (by rw[List.size_toArray]<;>omega)
 rw[slicePick_cut,<-hlen]
 refine⟨.ref s.heap.objs.size,_,I.laid (t':=s.toks) (o:=.lst (cutV xs lo hi)) (λ b ob q=>Heap.get?_push_of_some _ q) (Nat.le_refl _) ?_,rfl,q _ (I.hok.fresh (Nat.le_refl _))⟩
 exact⟨Nat.le_trans (cutV_length xs lo hi) hz,_,0,(r.drop (HT.sIx xs.length 0 lo)).take (HT.sIx xs.length xs.length hi - HT.sIx xs.length 0 lo),Heap.get?_push_size _ rfl⟩
def flatV:V->Bool
 | .non=>true
 | .bl _=>true
 | .int _=>true
 | .str _=>true
 | _=>false
def eqV:V->V->Bool
 | .non,.non=>true
 | .bl a,.bl b=>a == b
 | .bl a,.int b=>(if a then 1 else 0) == b
 | .int a,.bl b=>a == (if b then 1 else 0)
 | .int a,.int b=>a == b
 | .str a,.str b=>a == b
 | _,_=>false
theorem eqAt_V {A:Around}{s:Shared}{y x:V}{u v:Value}(ry:RelV y u)(rx:RelV x v)(fy:flatV y=true)(fx:flatV x=true):SeqAt.EqAt A s u v (eqV y x):=by
 cases y with
 | non=>
  cases ry
  cases x with
  | non=>cases rx;exact SeqAt.EqAt.same _
  | bl b=>cases rx;exact SeqAt.EqAt.none_bool b
  | int b=>obtain⟨t,rfl⟩:=rx;exact SeqAt.EqAt.none_int b t
  | str b=>obtain⟨t,rfl⟩:=rx;exact SeqAt.EqAt.none_str b t
  | _=>exact absurd (show false=true from fx) Bool.false_ne_true
 | bl a=>
  cases ry
  cases x with
  | non=>cases rx;exact SeqAt.EqAt.bool_none a
  | bl b=>cases rx;exact SeqAt.EqAt.bool_bool a b
  | int b=>obtain⟨t,rfl⟩:=rx;exact SeqAt.EqAt.bool_int a b t
  | str b=>obtain⟨t,rfl⟩:=rx;exact SeqAt.EqAt.bool_str a b t
  | _=>exact absurd (show false=true from fx) Bool.false_ne_true
 | int a=>
  obtain⟨t',rfl⟩:=ry
  cases x with
  | non=>cases rx;exact SeqAt.EqAt.int_none a t'
  | bl b=>cases rx;exact SeqAt.EqAt.int_bool a t' b
  | int b=>obtain⟨t,rfl⟩:=rx;exact SeqAt.EqAt.int_int a t' b t
  | str b=>obtain⟨t,rfl⟩:=rx;exact SeqAt.EqAt.int_str a t' b t
  | _=>exact absurd (show false=true from fx) Bool.false_ne_true
 | str a=>
  obtain⟨t',rfl⟩:=ry
  cases x with
  | non=>cases rx;exact SeqAt.EqAt.str_none a t'
  | bl b=>cases rx;exact SeqAt.EqAt.str_bool a t' b
  | int b=>obtain⟨t,rfl⟩:=rx;exact SeqAt.EqAt.str_int a t' b t
  | str b=>obtain⟨t,rfl⟩:=rx;exact SeqAt.EqAt.str_str a t' b t
  | _=>exact absurd (show false=true from fx) Bool.false_ne_true
 | _=>exact absurd (show false=true from fy) Bool.false_ne_true
def eqU (x:V)(u:Value):Bool:=match u with
 | .none=>eqV .non x
 | .bool b=>eqV (.bl b) x
 | .int i _=>eqV (.int i) x
 | .str z _=>eqV (.str z) x
 | _=>false
theorem eqU_of {x y:V}{u:Value}(r:RelV y u)(f:flatV y=true):eqU x u=eqV y x:=by
 cases y with
 | non=>cases r;rfl
 | bl b=>cases r;rfl
 | int i=>obtain⟨t,rfl⟩:=r;rfl
 | str z=>obtain⟨t,rfl⟩:=r;rfl
 | _=>exact absurd (show false=true from f) Bool.false_ne_true
theorem any_eqU {x:V}:∀ {xs:List V}{us:List Value},Vals xs us->xs.all flatV=true->us.any (eqU x)=xs.any λ y=>eqV y x
 | _,_,.nil,_=>rfl
 | y :: xs,u :: us,.cons r t,f=>by
  rw[List.all_cons,Bool.and_eq_true]at f
  rw[List.any_cons,List.any_cons,eqU_of r f.1,any_eqU t f.2]
theorem mem_eqAt {A:Around}{s:Shared}{x:V}{v:Value}(rx:RelV x v)(fx:flatV x=true):∀ {xs:List V}{us:List Value},Vals xs us->xs.all flatV=true->∀ u∈us,SeqAt.EqAt A s u v (eqU x u)
 | _,_,.nil,_=>λ u hu=>by cases hu
 | y :: xs,u :: us,.cons r t,f=>λ u' hu=>by
  rw[List.all_cons,Bool.and_eq_true]at f
  rcases List.mem_cons.mp hu with rfl|hu
  ·rw[eqU_of r f.1];exact eqAt_V r rx f.1 fx
  ·exact mem_eqAt rx fx t f.2 u' hu
def inV (x:V)(xs:List V):Bool:=xs.any λ y=>eqV y x
def rIn (K:PySem.W.Frag)(neg:Bool):R2:=λ x y H Q=>∃ p xs,y=.ref p/\(SqL K H p xs∨SqT K H p xs)/\flatV x=true/\xs.all flatV=true/\Q (.bl (if neg then !inV x xs else inV x xs)) H
theorem op_in_seq:OpR X (compareOp .In) (rIn X.K false):=by
 intro pins s σ H x y v u Q I rx ry h
 obtain⟨p,xs,rfl,hq,fx,fs,q⟩:=h
 cases ry
 rcases hq with hq|hq
 ·obtain⟨its,r,pl,hz⟩:=I.list hq
  refine SeqAt.in_listAt (eqU x) pl.isList (λ w hw=>mem_eqAt rx fx r fs w (by simpa using hw)) ⟨.bl _,H,I,rfl,?_⟩
  rw[show its.toArray.any (eqU x)=its.any (eqU x) by simp,any_eqU r fs]
  exact q
 ·obtain⟨its,r,pl,hz⟩:=I.tuple hq
  refine SeqAt.in_tupleAt (eqU x) pl (λ w hw=>mem_eqAt rx fx r fs w (by simpa using hw)) ⟨.bl _,H,I,rfl,?_⟩
  rw[show its.toArray.any (eqU x)=its.any (eqU x) by simp,any_eqU r fs]
  exact q
theorem op_notIn_seq:OpR X (compareOp .NotIn) (rIn X.K true):=by
 intro pins s σ H x y v u Q I rx ry h
 obtain⟨p,xs,rfl,hq,fx,fs,q⟩:=h
 cases ry
 rcases hq with hq|hq
 ·obtain⟨its,r,pl,hz⟩:=I.list hq
  refine SeqAt.notIn_listAt (eqU x) pl.isList (λ w hw=>mem_eqAt rx fx r fs w (by simpa using hw)) ⟨.bl _,H,I,rfl,?_⟩
  rw[show its.toArray.any (eqU x)=its.any (eqU x) by simp,any_eqU r fs]
  exact q
 ·obtain⟨its,r,pl,hz⟩:=I.tuple hq
  refine SeqAt.notIn_tupleAt (eqU x) pl (λ w hw=>mem_eqAt rx fx r fs w (by simpa using hw)) ⟨.bl _,H,I,rfl,?_⟩
  rw[show its.toArray.any (eqU x)=its.any (eqU x) by simp,any_eqU r fs]
  exact q
theorem call_len_seq:CallR X (.builtin "len") (λ xs H Q=>∃ p ys,xs=[.ref p]/\(SqL X.K H p ys∨SqT X.K H p ys)/\Q (.int ys.length) H):=by
 intro pins s σ H xs us Q I r h
 obtain⟨p,ys,rfl,hq,q⟩:=h
 obtain⟨u,rfl,rx⟩:=vals1 r
 cases rx
 have hn:=line63
 rcases hq with hq|hq
 ·obtain⟨its,r',pl,hz⟩:=I.list hq
  have hlen:=r'.length
  exact Calls.call_len_list pl.isList (by simp only[List.size_toArray]<;>omega) ⟨.int ys.length,H,I.tok _,⟨s.toks+1,by rw[List.size_toArray,hlen]⟩,q⟩
 ·obtain⟨its,r',pl,hz⟩:=I.tuple hq
  have hlen:=r'.length
  exact len_tuple pl (by simp only[List.size_toArray]<;>omega) ⟨.int ys.length,H,I.tok _,⟨s.toks+1,by rw[List.size_toArray,hlen]⟩,q⟩
theorem call_len_str:CallR X (.builtin "len") (λ xs H Q=>∃ z,xs=[.str z]/\z.length<=sizeLine/\Q (.int z.length) H):=by
 intro pins s σ H xs us Q I r h
 obtain⟨z,rfl,hz,q⟩:=h
 obtain⟨u,rfl,t,rfl⟩:=vals1 r
 have hn:=line63
 exact len_str (by omega) ⟨.int z.length,H,I.tok _,⟨_,rfl⟩,q⟩
theorem call_list_of:CallR X (.type "list") (λ xs H Q=>∃ p ys,xs=[.ref p]/\(SqL X.K H p ys∨SqT X.K H p ys)/\∀ l,H l=none->Q (.ref l) (upd H l (.lst ys))):=by
 intro pins s σ H xs us Q I r h
 obtain⟨p,ys,rfl,hq,q⟩:=h
 obtain⟨u,rfl,rx⟩:=vals1 r
 cases rx
 have fin:∀ (its:List Value),Vals ys its->ys.length<=sizeLine->∀ (h':Heap) (c':Nat),(∀ b o',s.heap.get? b=some o'->h'.get? b=some o')->
   h'.get? s.heap.objs.size=some { cls:=.type "list",dict:=none,data:=.seq its.toArray c',slots:=#[] }->EP X pins σ Q (.ref s.heap.objs.size) { s with heap:=h' }:=λ its r' hz h' c' kp e=>
  ⟨.ref s.heap.objs.size,_,I.laid (t':=s.toks) kp (Nat.le_refl _) (show ObjOk X.prog X.w _ h' _ (.lst ys) from⟨hz,its,c',r',e⟩),rfl,q _ (I.hok.fresh (Nat.le_refl _))⟩
 rcases hq with hq|hq
 ·obtain⟨its,r',pl,hz⟩:=I.list hq
  have hlen:=r'.length
  obtain⟨o,ho,hc,n,hd⟩:=pl.isList
  exact call_list_seq p (.inl rfl) ho hc hd (λ h' c' kp e=>fin its r' hz h' c' kp e) (by simp only[List.size_toArray]<;>omega)
 ·obtain⟨its,r',pl,hz⟩:=I.tuple hq
  have hlen:=r'.length
  obtain⟨o,ho,hc,n,hd⟩:=pl
  exact call_list_seq p (.inr rfl) ho hc hd (λ h' c' kp e=>fin its r' hz h' c' kp e) (by simp only[List.size_toArray]<;>omega)
theorem call_tuple_of:CallR X (.type "tuple") (λ xs H Q=>∃ p ys,xs=[.ref p]/\((SqL X.K H p ys/\∀ l,H l=none->Q (.ref l) (upd H l (.tup ys)))∨(SqT X.K H p ys/\Q (.ref p) H))):=by
 intro pins s σ H xs us Q I r h
 obtain⟨p,ys,rfl,h⟩:=h
 obtain⟨u,rfl,rx⟩:=vals1 r
 cases rx
 rcases h with⟨hq,q⟩|⟨hq,q⟩
 ·obtain⟨its,r',pl,hz⟩:=I.list hq
  have hlen:=r'.length
  refine call_tuple_list pl.isList (λ h' kp=>?_) (by simp only[List.size_toArray]<;>omega)
  have I1:Inv X pins σ H { s with heap:=h' }:=I.kept (t':=s.toks) kp
  have I2:Inv X pins σ (upd H h'.objs.size (.tup ys)) { s with heap:=h'.push { cls:=.type "tuple",data:=.seq its.toArray } }:=
   I1.laid (t':=s.toks) (λ b o e=>Heap.get?_push_of_some _ e) (Nat.le_refl _) (show ObjOk X.prog X.w _ _ _ (.tup ys) from⟨hz,its,r',IsTup.new _ _⟩)
  exact⟨.ref h'.objs.size,_,I2,rfl,q _ (I1.hok.fresh (Nat.le_refl _))⟩
 ·obtain⟨its,r',pl,hz⟩:=I.tuple hq
  exact call_tuple_same pl ⟨.ref p,H,I,rfl,q⟩
def tyV (K:PySem.W.Frag)(T:String)(x:V)(H:Hp):Prop:=match x with
 | .str _=>T="str"
 | .int _=>T="int"
 | .ref p=>(T="list"/\∃ xs,SqL K H p xs)∨(T="tuple"/\∃ o,K.lookup p=some o/\o.cls=.type "tuple"/\o.dict=none)∨
   (T="dict"/\((∃ kvs,H p=some (.dK kvs))∨∃ kvs,H p=some (.dT kvs)))∨(T="set"/\∃ S n,H p=some (.set S n))
 | _=>False
theorem tyV_is {pins:List (Addr × Obj)}{σ:St}{H:Hp}{s:Shared}{T:String}{x:V}{v:Value}(I:Inv X pins σ H s)(r:RelV x v)(ty:tyV X.K T x H) :
  s.TypeIs v T/\∀ a,v=.ref a->∃ ob,s.heap.get? a=some ob/\ob.dict=none:=by
 cases x with
 | str z=>
  obtain⟨t,rfl⟩:=r
  cases (show T="str" from ty)
  exact⟨typeIs_str s z t,λ _ e=>nomatch e⟩
 | int i=>
  obtain⟨t,rfl⟩:=r
  cases (show T="int" from ty)
  exact⟨typeIs_int s i t,λ _ e=>nomatch e⟩
 | ref p=>
  cases r
  rcases ty with⟨rfl,xs,hq⟩|⟨rfl,o,hk,hc,hd⟩|⟨rfl,hk⟩|⟨rfl,S,n,hk⟩
  ·obtain⟨its,_,pl,_⟩:=I.list hq
   refine⟨pl.isList.typeIs,λ a e=>?_⟩
   cases e
   obtain⟨o,n,e,c,hd,_⟩:=pl
   exact⟨o,e,hd⟩
  ·refine⟨⟨o,I.kIn p o hk,hc⟩,λ a e=>?_⟩
   cases e
   exact⟨o,I.kIn _ o hk,hd⟩
  ·have z:∃ o,s.heap.get? p=some o/\o.ExactDict:=by
    rcases hk with⟨kvs,hk⟩|⟨kvs,hk⟩
    ·obtain⟨_,_,_,_,o,_,_,e,ex,_⟩:=I.hok p _ hk
     exact⟨o,e,ex⟩
    ·obtain⟨_,_,_,_,o,_,_,e,ex,_⟩:=I.hok p _ hk
     exact⟨o,e,ex⟩
   obtain⟨o,e,ex⟩:=z
   refine⟨⟨o,e,ex.1⟩,λ a e2=>?_⟩
   cases e2
   exact⟨o,e,ex.2.1⟩
  ·obtain⟨o,_,_,_,e,ex,_⟩:=I.hok p _ hk
   refine⟨⟨o,e,ex.1⟩,λ a e2=>?_⟩
   cases e2
   exact⟨o,e,ex.2.1⟩
 | _=>exact False.elim ty
def tBM (K:PySem.W.Frag)(T:String)(r:V->List V->Hp->VK->Prop)(to:TE)(t:TA):TE:=λ σ H Q=>to σ H λ x H1=>tyV K T x H1/\t σ H1 λ xs H2=>r x xs H2 Q
variable {o e:Expr}{es:List Expr}{to:TE}{t:TA}{name:Str}{apos cpos:Pos}{T id:String}{r:V->List V->Hp->VK->Prop}
theorem pe_bm (pa:PlainAttrs T)(slot:Slot T name id)(hty:typeOf (.builtin id)=pure (.type "method_descriptor")) (hm:MtR X id r)(ho:PE X o to)(ha:PA X (e :: es) t)
  (hbase:attributeBase o name X.env (eval o X.env)=eval o X.env:=by rfl)
  (hfew:((backTo cpos (starEach (e :: es) X.env)).all (λ x=>!x.1) && (backToKw cpos (keywordEach [] X.env)).all (λ x=>x.1.isSome)
   && decide ((e :: es).length+([]:List Keyword).length+(if ([]:List Keyword).isEmpty then 0 else 1) < 30))=true:=by rfl)
  (hline:(apos.endLine == cpos.line)=true:=by rfl) (hs:starEach (e :: es) X.env=(false,eval e X.env) :: starEach es X.env:=by rfl) (hplain:(backTo cpos (starEach es X.env)).any (·.1)=false:=by rfl) :
  PE X (.Call (.Attribute o name apos) (e :: es) [] cpos) (tBM X.K T r to t):=by
 intro pins s σ H Q I h
 refine wpAny_Call_method_late hbase hfew hline rfl (thn (ho pins s σ H _ I h) λ v s1 ⟨x,H1,I1,r1,ty,q1⟩=>?_)
 obtain⟨h1,h2⟩:=tyV_is I1 r1 ty
 refine⟨T,id,pa,slot,hty,h1,h2,?_⟩
 have hA:=ha cpos pins s1 σ H1 _ I1 q1
 rw[hs]at hA ⊢
 refine Calls.callWith_builtin (by show(false || (backTo cpos (starEach es X.env)).any (·.1))=false;rw[hplain]<;>rfl) (Calls.evalArgs_plain ?_)
 exact thn hA λ us s2 ⟨vs,H2,I2,r2,q2⟩=>hm pins s2 σ H2 x vs v us Q I2 r1 r2 q2
end
end L2
namespace L2
open PySem PySem.Spec PyProof.Rows
def MtM (X:Cx)(id:String)(r:V->List V->Hp->VK->Prop):Prop:=
 ∀ (pins:List (Addr × Obj)) (s:Shared) (σ:St) (H:Hp) (x:V) (xs:List V) (v:Value) (us:List Value) (Q:VK),Inv X pins σ H s->RelV x v->Vals xs us->r x xs H Q->
  wpAny (model X.prog X.w) X.A (call (.builtin id) (v :: us)) (EP X pins σ Q) X.xe s
theorem Vals.one:∀ {x:V}{us:List Value},Vals [x] us->∃ u,us=[u]/\RelV x u
 | _,_,.cons r .nil=>⟨_,rfl,r⟩
theorem Vals.eraseIdx:∀ {xs:List V}{us:List Value}(i:Nat),Vals xs us->Vals (xs.eraseIdx i) (us.eraseIdx i)
 | _,_,_,.nil=>.nil
 | _,_,0,.cons _ t=>t
 | _,_,i+1,.cons r t=>.cons r (Vals.eraseIdx i t)
theorem Vals.rep {xs:List V}{us:List Value}(h:Vals xs us):∀ k:Nat,Vals (List.replicate k xs).flatten (List.replicate k us).flatten
 | 0=>.nil
 | k+1=>by
  rw[List.replicate_succ,List.replicate_succ,List.flatten_cons,List.flatten_cons]
  exact Vals.append h (Vals.rep h k)
theorem len_erase {α:Type}:∀ (l:List α) (i:Nat),(l.eraseIdx i).length<=l.length
 | [],_=>Nat.le_refl _
 | _ :: _,0=>Nat.le_succ _
 | _ :: r,i+1=>Nat.succ_le_succ (len_erase r i)
theorem foldl_rep (its:List Value):∀ (k:Nat) (acc:List Value),
  List.foldl (λ x1 x2=>x1++x2) acc.toArray (List.replicate k its.toArray)=(acc++(List.replicate k its).flatten).toArray
 | 0,acc=>by simp
 | k+1,acc=>by
  have e:acc.toArray++its.toArray=(acc++its).toArray:=by simp
  have e2:(acc++its)++(List.replicate k its).flatten=acc++(List.replicate (k+1) its).flatten:=by
   rw[List.replicate_succ,List.flatten_cons,List.append_assoc]
  rw[<-e2,<-foldl_rep its k (acc++its),<-e,List.replicate_succ,List.foldl_cons]
section
variable {X:Cx}{pins:List (Addr × Obj)}{σ:St}{H:Hp}{s:Shared}{l b:Addr}{xs ys zs:List V}
theorem Inv.lset {its its':List Value}{n:Nat}{f:Array Value->Array Value}{t':Nat}(I:Inv X pins σ H s)(hH:H l=some (.lst xs))
  (e:s.heap.get? l=some { cls:=.type "list",data:=.seq its.toArray n }) (hf:f its.toArray=its'.toArray) (hv:Vals ys its') (hz:ys.length<=sizeLine) :
  Inv X pins σ (upd H l (.lst ys)) { s with heap:=s.heap.update l (Obj.mapSeq f),toks:=t' }:=by
 have q:=PySem.IsL.update e f
 rw[hf]at q
 refine I.write (x:=l) (e:=l) (by rw[hH];exact trivial) (.inl rfl) (λ b' u hb hu=>(Heap.get?_update_other s.heap (Obj.mapSeq f) (Ne.symm hb)).trans hu) ⟨_,q⟩ ?_
 exact⟨hz,its',_,hv,q⟩
theorem Inv.lnew {its:List Value}{t':Nat}(I:Inv X pins σ H s)(hv:Vals ys its)(hz:ys.length<=sizeLine) :
  Inv X pins σ (upd H s.heap.objs.size (.lst ys)) { s with heap:=s.heap.push { cls:=.type "list",data:=.seq its.toArray },toks:=t' }:=
 I.laid (λ _ _ q=>Heap.get?_push_of_some _ q) (Nat.le_refl _) ⟨hz,its,0,hv,Heap.get?_push_size _ rfl⟩
theorem Inv.fresh (I:Inv X pins σ H s):H s.heap.objs.size=none:=I.hok.fresh (Nat.le_refl _)
theorem Inv.lstM (I:Inv X pins σ H s)(hH:H l=some (.lst xs)):xs.length<=sizeLine/\∃ (its:List Value) (n:Nat),Vals xs its/\xs.length=its.length/\s.heap.get? l=some { cls:=.type "list",data:=.seq its.toArray n }:=by
 obtain⟨z,its,n,r,e⟩:=I.hok l _ hH
 exact⟨z,its,n,r,r.length,e⟩
theorem notLongL {n:Nat}(h:n<=sizeLine):Builtin.List.listTooLong n=false:=by
 unfold Builtin.List.listTooLong
 exact decide_eq_false (by omega)
end
section
variable {X:Cx}
def rAppend:V->List V->Hp->VK->Prop:=λ x vs H Q=>∃ l xs y,x=.ref l/\vs=[y]/\H l=some (.lst xs)/\xs.length < sizeLine/\Q .non (upd H l (.lst (xs++[y])))
theorem mt_append:MtM X "list.append" rAppend:=by
 intro pins s σ H x vs v us Q I rx rv h
 obtain⟨l,xs,y,rfl,rfl,hH,hz,q⟩:=h
 cases rx
 obtain⟨u,rfl,ru⟩:=rv.one
 obtain⟨z,its,n,r,hl,e⟩:=I.lstM hH
 refine call_meets F.slot_list_append ⟨_,e,rfl⟩ F.entry_list_append (F.args_list_append_2 _ _) (PySem.list_append l its.toArray n u (by rw[List.size_toArray];omega)) ⟨e,?_⟩
 refine⟨.non,_,I.lset (its':=its++[u]) hH e (by simp) (r.append (.cons ru .nil)) ?_,rfl,q⟩
 rw[List.length_append,List.length_singleton]
 omega
def rExtend:V->List V->Hp->VK->Prop:=λ x vs H Q=>∃ l b xs zs,x=.ref l/\vs=[.ref b]/\H l=some (.lst xs)/\H b=some (.lst zs)/\xs.length+zs.length<=sizeLine/\Q .non (upd H l (.lst (xs++zs)))
theorem mt_extend:MtM X "list.extend" rExtend:=by
 intro pins s σ H x vs v us Q I rx rv h
 obtain⟨l,b,xs,zs,rfl,rfl,hH,hB,hz,q⟩:=h
 cases rx
 obtain⟨u,rfl,ru⟩:=rv.one
 cases ru
 obtain⟨z,its,n,r,hl,e⟩:=I.lstM hH
 obtain⟨z2,its2,n2,r2,hl2,e2⟩:=I.lstM hB
 have hsz:its.toArray.size+its2.toArray.size<=sizeLine:=by rw[List.size_toArray,List.size_toArray];omega
 have hlong:¬ (!its.toArray.isEmpty && Builtin.List.listTooLong (its.toArray.size+its2.toArray.size))=true:=by
  rw[notLongL hsz,Bool.and_false]
  exact Bool.false_ne_true
 refine call_meets F.slot_list_extend ⟨_,e,rfl⟩ F.entry_list_extend (F.args_list_extend_2 _ _)
  (AutoSeq1.list_extend_list_list_0 l its.toArray n b its2.toArray n2 hlong (by rw[List.size_toArray];omega) (by omega)) ⟨e,e2,?_⟩
 refine⟨.non,_,I.lset (its':=its++its2) hH e (by simp) (r.append r2) ?_,rfl,q⟩
 rw[List.length_append]
 omega
def rPopAt:V->List V->Hp->VK->Prop:=λ x vs H Q=>∃ l xs i k y,x=.ref l/\vs=[.int i]/\H l=some (.lst xs)/\-(2 ^ 63)<=i/\i < 2 ^ 63/\seqIndex? i xs.length=some k/\xs[k]? = some y/\Q y (upd H l (.lst (xs.eraseIdx k)))
theorem mt_popAt:MtM X "list.pop" rPopAt:=by
 intro pins s σ H x vs v us Q I rx rv h
 obtain⟨l,xs,i,k,y,rfl,rfl,hH,h1,h2,hk,hy,q⟩:=h
 cases rx
 obtain⟨u,rfl,ru⟩:=rv.one
 obtain⟨t,rfl⟩:=ru
 obtain⟨z,its,n,r,hl,e⟩:=I.lstM hH
 obtain⟨w,hw,rw'⟩:=r.get hy
 refine call_meets F.slot_list_pop ⟨_,e,rfl⟩ F.entry_list_pop (F.args_list_pop_2 _ _)
  (MeetsSeq.list_pop_at l its.toArray n i t k w (fitsIndex_both h1 h2) (by rw[List.size_toArray,<-hl];exact hk) (by rw[<-Array.getElem?_toList];exact hw) (by rw[List.size_toArray];omega)) ⟨e,?_⟩
 refine⟨y,_,I.lset (its':=its.eraseIdx k) hH e ?_ (r.eraseIdx k) ?_,rw',q⟩
 ·show its.toArray.eraseIdxIfInBounds k=(its.eraseIdx k).toArray
  rw[List.eraseIdxIfInBounds_toArray]
 ·have:=len_erase xs k
  omega
def rCat:R2:=λ x y H Q=>∃ l b xs zs,x=.ref l/\y=.ref b/\H l=some (.lst xs)/\H b=some (.lst zs)/\xs.length+zs.length<=sizeLine/\∀ p,H p=none->Q (.ref p) (upd H p (.lst (xs++zs)))
theorem op_cat:OpR X (binaryOp .Add) rCat:=by
 intro pins s σ H x y v u Q I rx ry h
 obtain⟨l,b,xs,zs,rfl,rfl,hH,hB,hz,q⟩:=h
 cases rx
 cases ry
 obtain⟨z,its,n,r,hl,e⟩:=I.lstM hH
 obtain⟨z2,its2,n2,r2,hl2,e2⟩:=I.lstM hB
 refine PySem.P.add_list e e2 ?_ (by rw[List.size_toArray,List.size_toArray];omega)
 have ea:its.toArray++its2.toArray=(its++its2).toArray:=by simp
 rw[ea]
 exact⟨.ref _,_,I.lnew (t':=s.toks) (r.append r2) (by rw[List.length_append];omega),rfl,q _ I.fresh⟩
theorem len_rep {α:Type}(xs:List α)(k:Nat):(List.replicate k xs).flatten.length=k * xs.length:=by
 induction k with
 | zero=>simp
 | succ k ih=>rw[List.replicate_succ,List.flatten_cons,List.length_append,ih,Nat.succ_mul,Nat.add_comm]
end
section
variable {prog:Program}{w:World}{A:Around}{E:Value->Shared->Prop}{s:Shared}
end
section
variable {X:Cx}
end
end L2
namespace L2
open PySem PySem.Spec PyProof.Rows
section
variable {κ:Type} [DecidableEq κ]
def valV (kvs:List (κ × V)) (k:κ):Option V:=(kvs.find? λ kv=>decide (kv.1=k)).map (·.2)
def putK (kvs:List (κ × V)) (k:κ)(v:V):List (κ × V):=
 if (kvs.any λ kv=>decide (kv.1=k))=true then kvs.map (λ kv=>if kv.1=k then (kv.1,v) else kv) else kvs++[(k,v)]
theorem valV_pos {p:κ × V}{r:List (κ × V)}{k:κ}(e:p.1=k):valV (p :: r) k=some p.2:=by simp[valV,List.find?_cons,e]
theorem valV_neg {p:κ × V}{r:List (κ × V)}{k:κ}(e:¬ p.1=k):valV (p :: r) k=valV r k:=by simp[valV,List.find?_cons,e]
theorem valV_any (k:κ):∀ kvs:List (κ × V),(kvs.any λ kv=>decide (kv.1=k))=(valV kvs k).isSome
 | []=>rfl
 | p :: r=>by
  rw[List.any_cons]
  by_cases e:p.1=k
  ·simp only[valV_pos e,decide_eq_true e,Bool.true_or,Option.isSome_some]
  ·rw[valV_neg e,decide_eq_false e,Bool.false_or];exact valV_any k r
theorem length_putK (kvs:List (κ × V)) (k:κ)(v:V):(putK kvs k v).length<=kvs.length+1:=by
 unfold putK
 split
 ·rw[List.length_map];omega
 ·rw[List.length_append,List.length_cons,List.length_nil];omega
theorem RelO.isSome_eq {o:Option V}{u:Option Value}(r:RelO o u):o.isSome=u.isSome:=by
 cases o with
 | none=>cases u with
  | none=>rfl
  | some _=>exact(show False from r).elim
 | some _=>cases u with
  | none=>exact(show False from r).elim
  | some _=>rfl
theorem KV.val {kvs:List (κ × V)}{vs:List (κ × Value)}(r:KV kvs vs)(k:κ):RelO (valV kvs k) (valueAt vs k):=by
 unfold KV at r
 induction r with
 | nil=>exact True.intro
 | @cons p q ps qs h t ih=>
  obtain⟨h1,h2⟩:=h
  by_cases e:p.1=k
  ·have e':q.1=k:=h1.symm.trans e
   have b:valueAt (q :: qs) k=some q.2:=by simp[valueAt,List.find?_cons,e']
   rw[valV_pos e,b];exact h2
  ·have e':¬ q.1=k:=λ z=>e (h1.trans z)
   have b:valueAt (q :: qs) k=valueAt qs k:=by simp[valueAt,List.find?_cons,e']
   rw[valV_neg e,b];exact ih
theorem KV.any {kvs:List (κ × V)}{vs:List (κ × Value)}(r:KV kvs vs)(k:κ):(kvs.any λ kv=>decide (kv.1=k))=vs.any λ kv=>decide (kv.1=k):=by
 unfold KV at r
 induction r with
 | nil=>rfl
 | cons h t ih=>rw[List.any_cons,List.any_cons,ih,h.1]
theorem KV.repl {kvs:List (κ × V)}{vs:List (κ × Value)}(r:KV kvs vs)(k:κ){y:V}{u:Value}(ry:RelV y u) :
  KV (kvs.map λ kv=>if kv.1=k then (kv.1,y) else kv) (vs.map λ kv=>if kv.1=k then (kv.1,u) else kv):=by
 unfold KV at r ⊢
 induction r with
 | nil=>exact .nil
 | @cons p q ps qs h t ih=>
  rw[List.map_cons,List.map_cons]
  refine .cons ?_ ih
  obtain⟨h1,h2⟩:=h
  by_cases e:p.1=k
  ·rw[if_pos e,if_pos (h1.symm.trans e)];exact⟨h1,ry⟩
  ·rw[if_neg e,if_neg (λ z=>e (h1.trans z))];exact⟨h1,h2⟩
theorem KV.put {kvs:List (κ × V)}{vs:List (κ × Value)}(r:KV kvs vs)(k:κ){y:V}{u:Value}(ry:RelV y u):KV (putK kvs k y) (stored vs k u):=by
 unfold putK stored
 rw[r.any k]
 by_cases e:(vs.any λ kv=>decide (kv.1=k))=true
 ·rw[if_pos e,if_pos e];exact r.repl k ry
 ·rw[if_neg e,if_neg e];exact Paired.snoc r ⟨rfl,ry⟩
theorem KV.length {kvs:List (κ × V)}{vs:List (κ × Value)}(r:KV kvs vs):kvs.length=vs.length:=Paired.length r
end
theorem kV_is {P:Program}{w:World}{k:Key}{u:Value}(r:RelV (kV k) u):(mixKind P w).is k u=true:=by
 cases k with
 | inl i=>obtain⟨t,e⟩:=(show ∃ t,u=Value.int i t from r);subst e;exact mixKind_int P w i t
 | inr x=>obtain⟨t,e⟩:=(show ∃ t,u=Value.str x t from r);subst e;exact mixKind_str P w x t
theorem items_are {P:Program}{w:World}:∀ {ks:List Key}{us:List Value},Vals (ks.map kV) us->ItemsAre (mixKind P w) ks us
 | [],_,r=>by rw[List.map_nil]at r;cases r;exact .nil
 | k :: ks,_,r=>by
  rw[List.map_cons]at r
  cases r with
  | cons h t=>exact .cons (kV_is h) (items_are t)
abbrev KT (H:Hp):List (List Key × V)->List (List Key × Addr × Value)->Prop:=Paired λ p q=>p.1=q.1/\H q.2.1=some (.tup (p.1.map kV))/\RelV p.2 q.2.2
theorem KT.val {H:Hp}{kvs:List (List Key × V)}{xs:List (List Key × Addr × Value)}(r:KT H kvs xs)(k:List Key):RelO (valV kvs k) ((atKey xs k).map (·.2)):=by
 induction r with
 | nil=>exact True.intro
 | @cons p q ps qs h t ih=>
  obtain⟨h1,_,h2⟩:=h
  by_cases e:p.1=k
  ·have e':q.1=k:=h1.symm.trans e
   have b:atKey (q :: qs) k=some q.2:=by simp[atKey,List.find?_cons,e']
   rw[valV_pos e,b];exact h2
  ·have e':¬ q.1=k:=λ z=>e (h1.trans z)
   have b:atKey (q :: qs) k=atKey qs k:=by simp[atKey,List.find?_cons,e']
   rw[valV_neg e,b];exact ih
theorem KT.repl {H:Hp}{kvs:List (List Key × V)}{xs:List (List Key × Addr × Value)}(r:KT H kvs xs)(k:List Key){y:V}{u:Value}(ry:RelV y u) :
  KT H (kvs.map λ kv=>if kv.1=k then (kv.1,y) else kv) (xs.map (putAt k u)):=by
 induction r with
 | nil=>exact .nil
 | @cons p q ps qs h t ih=>
  rw[List.map_cons,List.map_cons]
  refine .cons ?_ ih
  obtain⟨h1,h2,h3⟩:=h
  unfold putAt
  by_cases e:p.1=k
  ·rw[if_pos e,if_pos (h1.symm.trans e)];exact⟨h1,h2,ry⟩
  ·rw[if_neg e,if_neg (λ z=>e (h1.trans z))];exact⟨h1,h2,h3⟩
theorem KT.put {H:Hp}{kvs:List (List Key × V)}{xs:List (List Key × Addr × Value)}(r:KT H kvs xs)(k:List Key){b:Addr}{y:V}{u:Value}(hb:H b=some (.tup (k.map kV))) (ry:RelV y u) :
  KT H (putK kvs k y) (storedH xs k b u):=by
 have e:(kvs.any λ kv=>decide (kv.1=k))=(atKey xs k).isSome:=by
  rw[valV_any,(r.val k).isSome_eq,Option.isSome_map]
 unfold putK storedH
 rw[e]
 by_cases q:(atKey xs k).isSome=true
 ·rw[if_pos q,if_pos q];exact r.repl k ry
 ·rw[if_neg q,if_neg q];exact Paired.snoc r ⟨rfl,hb,ry⟩
theorem KT.keeps {H H':Hp}{kvs:List (List Key × V)}{xs:List (List Key × Addr × Value)}(r:KT H kvs xs)(ht:∀ b ys,H b=some (.tup ys)->H' b=some (.tup ys)):KT H' kvs xs:=
 Paired.mapP r λ _ _ z=>⟨z.1,ht _ _ z.2.1,z.2.2⟩
section
variable {P:Program}{w:World}{H:Hp}{h:Heap}{a:Addr}
theorem rd_of {u:HO}(ok:HOk P w H h)(e:Rd H a u):ObjOk P w H h a u:=e.ok ok
theorem dk_rd {kvs:List (Key × V)}(ok:HOk P w H h)(e:Rd H a (.dK kvs)):kvs.length<=sizeLine/\(a == sysModules)=false/\∃ vs,KV kvs vs/\h.DictOf (mixKind P w) a vs:=
 show ObjOk P w H h a (.dK kvs) from rd_of ok e
theorem dk_of {kvs:List (Key × V)}(ok:HOk P w H h)(e:H a=some (.dK kvs)):kvs.length<=sizeLine/\(a == sysModules)=false/\∃ vs,KV kvs vs/\h.DictOf (mixKind P w) a vs:=dk_rd ok (.inl e)
theorem key_of {ks:List Key}(ok:HOk P w H h)(e:H a=some (.tup (ks.map kV))):(tupleKind (mixKind P w)).is h ks a:=by
 obtain⟨_,its,r,o,h1,h2,n,h3⟩:=(show ObjOk P w H h a (.tup (ks.map kV)) from ok a _ e)
 exact⟨o,its.toArray,n,h1,h2,h3,by simpa using items_are r⟩
theorem dt_rd {kvs:List (List Key × V)}(ok:HOk P w H h)(e:Rd H a (.dT kvs)):kvs.length<=sizeLine/\(a == sysModules)=false/\
  ∃ xs,KT H kvs xs/\h.DictOfH (tupleKind (mixKind P w)) a xs:=by
 obtain⟨z,y,xs,r,o,es,ep,h1,h2,h3,h4,h5⟩:=(show ObjOk P w H h a (.dT kvs) from rd_of ok e)
 refine⟨z,y,xs,r,o,es,ep,h1,h2,h3,h4,λ x hx=>?_,h5⟩
 have all:∀ {l:List (List Key × V)}{m:List (List Key × Addr × Value)},KT H l m->∀ x∈m,(tupleKind (mixKind P w)).is h x.1 x.2.1:=by
  intro l m q
  induction q with
  | nil=>intro x hx;exact nomatch hx
  | @cons p q ps qs hq t ih=>
   intro x hx
   rcases List.mem_cons.mp hx with e|hx
   ·subst e
    exact key_of ok (by rw[<-hq.1];exact hq.2.1)
   ·exact ih x hx
 exact all r x hx
theorem dt_of {kvs:List (List Key × V)}(ok:HOk P w H h)(e:H a=some (.dT kvs)):kvs.length<=sizeLine/\(a == sysModules)=false/\
  ∃ xs,KT H kvs xs/\h.DictOfH (tupleKind (mixKind P w)) a xs:=dt_rd ok (.inl e)
end
def DGet (H:Hp)(a:Addr)(y:V)(r:Option V):Prop:=
 (∃ kvs k,Rd H a (.dK kvs)/\y=kV k/\r=valV kvs k)∨∃ kvs k b,Rd H a (.dT kvs)/\y=.ref b/\H b=some (.tup (k.map kV))/\r=valV kvs k
def DPut (H:Hp)(a:Addr)(y v:V)(H':Hp):Prop:=
 (∃ kvs k,H a=some (.dK kvs)/\y=kV k/\kvs.length < sizeLine/\H'=upd H a (.dK (putK kvs k v)))∨
 ∃ kvs k b,H a=some (.dT kvs)/\y=.ref b/\H b=some (.tup (k.map kV))/\kvs.length < sizeLine/\H'=upd H a (.dT (putK kvs k v))
theorem DGet.k {H:Hp}{a:Addr}{kvs:List (Key × V)}{k:Key}(e:H a=some (.dK kvs)):DGet H a (kV k) (valV kvs k):=.inl ⟨kvs,k,.inl e,rfl,rfl⟩
theorem DPut.k {H:Hp}{a:Addr}{kvs:List (Key × V)}{k:Key}{v:V}(e:H a=some (.dK kvs)) (hl:kvs.length < sizeLine):DPut H a (kV k) v (upd H a (.dK (putK kvs k v))):=.inl ⟨kvs,k,e,rfl,hl,rfl⟩
section
variable {X:Cx}{pins:List (Addr × Obj)}{σ:St}{H:Hp}{s:Shared}{a:Addr}{y v:V}{u r:Value}{o:Option V}{A:Around}{E:Value->Shared->Prop}
theorem Inv.big (I:Inv X pins σ H s):sysModules < s.heap.objs.size:=by
 have h:mainGlobals < s.heap.objs.size:=(I.mod.glob.keeps I.bk).lt
 exact Nat.lt_trans (by decide) h
theorem d_getItem {Q:Value->Shared->Prop}(hu:A.units+1 < cLine)(I:Inv X pins σ H s)(g:DGet H a y (some v)) (ry:RelV y u)(h:∀ w' s',Inv X pins σ H s'->RelV v w'->Q w' s') :
  wpAny (model X.prog X.w) A (getItem (.ref a) u) Q E s:=by
 rcases g with⟨kvs,k,e,ey,l⟩|⟨kvs,k,b,e,ey,eb,l⟩
 ·subst ey
  obtain⟨z,hd,vs,rel,dd⟩:=dk_rd I.hok e
  obtain⟨w',hw,rw'⟩:=RelO.some_of (v:=v) (o:=valueAt vs k) (by rw[l];exact rel.val k)
  exact wpAny_getItem_of (kV_is ry) dd.mapOf hw (h w' _ (I.tok _) rw')
 ·subst ey
  cases (show u=Value.ref b from ry)
  obtain⟨z,hd,xs,rel,dd⟩:=dt_rd I.hok e
  obtain⟨w',hw,rw'⟩:=RelO.some_of (v:=v) (o:=(atKey xs k).map (·.2)) (by rw[l];exact rel.val k)
  obtain⟨p,hp,hp2⟩:=Option.map_eq_some_iff.mp hw
  refine wpAny_getItem_heap (tupleKind_room_in1 hu) (key_of I.hok eb) dd hp ?_
  rw[hp2]
  exact h w' _ (I.tok _) rw'
theorem d_write {h':Heap}{t':Nat}{ob:HO}(I:Inv X pins σ H s)(mu:Mut (H a)) (hs:Heap.SameBut a s.heap h')(he:∃ q,h'.get? a=some q)(new:ObjOk X.prog X.w (upd H a ob) h' a ob) :
  Inv X pins σ (upd H a ob) { s with heap:=h',toks:=t' }:=
 I.write (x:=a) (e:=a) mu (.inl rfl) (λ b q hb z=>(hs.2 b hb).trans z) he new
theorem dk_new {P:Program}{w:World}{H':Hp}{h':Heap}{kvs:List (Key × V)}{vs:List (Key × Value)}(z:kvs.length<=sizeLine)(hd:(a == sysModules)=false) (rel:KV kvs vs)(dd:h'.DictOf (mixKind P w) a vs) :
  ObjOk P w H' h' a (.dK kvs):=⟨z,hd,vs,rel,dd⟩
theorem d_setItem {H':Hp}{Q:Unit->Shared->Prop}(hu:A.units+1 < cLine)(I:Inv X pins σ H s)(g:DPut H a y v H')(ry:RelV y u)(rv:RelV v r)(h:∀ s',Inv X pins σ H' s'->Q () s') :
  wpAny (model X.prog X.w) A (setItem (.ref a) u r) Q E s:=by
 rcases g with⟨kvs,k,e,ey,l,eH⟩|⟨kvs,k,b,e,ey,eb,l,eH⟩
 ·subst ey eH
  obtain⟨z,hd,vs,rel,dd⟩:=dk_of I.hok e
  have hz:vs.length<=sizeLine:=by rw[<-rel.length];exact z
  have hl:(putK kvs k v).length<=sizeLine:=by have:=length_putK kvs k v;omega
  refine wpAny_setItem_pairs (hsz:=hz) (kV_is ry) dd λ h' dd' hs=>h _ ?_
  have he:∃ q,h'.get? a=some q:=let ⟨q,_,_,hq,_⟩:=dd';⟨q,hq⟩
  exact d_write I (by rw[e];exact True.intro) hs he (dk_new hl hd (rel.put k rv) dd')
 ·subst ey eH
  cases (show u=Value.ref b from ry)
  obtain⟨z,hd,xs,rel,dd⟩:=dt_of I.hok e
  have hz:xs.length<=sizeLine:=by rw[<-Paired.length rel];exact z
  have hl:(putK kvs k v).length<=sizeLine:=by have:=length_putK kvs k v;omega
  refine wpAny_setItem_heap (hsz:=hz) (tupleKind_room_in1 hu) (key_of I.hok eb) dd λ h' dd' hs=>h _ ?_
  obtain⟨q,es,ep,hq,h2,h3,h4,_,h5⟩:=dd'
  refine d_write I (by rw[e];exact True.intro) hs ⟨q,hq⟩ ⟨hl,hd,_,(rel.put k eb rv).keeps λ c ys ec=>?_,q,es,ep,hq,h2,h3,h4,h5⟩
  rw[upd_ne (ne_of ec e (λ z=>nomatch z))]
  exact ec
end
section
variable {X:Cx}{pins:List (Addr × Obj)}{σ:St}{H:Hp}{s:Shared}{a:Addr}{kvs:List (Key × V)}{k:Key}{u:Value}{A:Around}{E:Value->Shared->Prop}
end
def NoSl (i:Expr):Prop:=∀ ov iv,subscripted i false ov iv=operate [ov,iv] (getItem ov iv)
theorem subD_of {prog:Program}{w:World}{A:Around}{E:Value->Shared->Prop}{s:Shared}{env:Env}{value slice:Expr}{pos:Pos}{T id:String}{Q:Value->Shared->Prop}
  (hl:typeLookup (.type T) "__getitem__"=pure (some (.builtin id))) (hs:NoSl slice)
  (h:wpAny (model prog w) A (eval value env) (λ o s₁=>wpAny (model prog w) A (eval slice env) (λ i s₂=>s₂.TypeIs o T/\wpAny (model prog w) A (getItem o i) Q E s₂) E s₁) E s) :
  wpAny (model prog w) A (eval (.Subscript value slice pos) env) Q E s:=by
 refine Subscript_ (wpAny_mono h (λ o s₁ h₁=>wpAny_mono h₁ (λ i s₂ h₂=>?_) λ _ _ x=>x) λ _ _ x=>x)
 obtain⟨hT,h₂⟩:=h₂
 unfold subscriptTail
 refine wpAny_bind ?_
 rw[getitemInPython_of_ne hT.not_modules]
 refine wpAny_bind (wpAny_specialOf hT hl ?_)
 have fin:wpAny (model prog w) A (subscripted slice false o i) (λ r s₃=>wpAny (model prog w) A (letTemporaryGo value o r >>= λ _=>pure r) Q E s₃) E s₂:=by
  rw[hs o i]
  exact wpAny_operating (wpAny_mono h₂ (λ r s₃ h₃=>wpAny_bind (wpAny_letTemporaryGo (wpAny_pure h₃))) λ _ _ x=>x)
 first
  | exact wpAny_pure (wpAny_bind fin)
  | exact wpAny_bind (wpAny_pure (wpAny_bind fin))
  | exact wpAny_bind fin
theorem dict_typeIs {X:Cx}{pins:List (Addr × Obj)}{σ:St}{H:Hp}{s:Shared}{a:Addr}{y:V}{o:Option V}(I:Inv X pins σ H s)(g:DGet H a y o):s.TypeIs (.ref a) "dict":=by
 rcases g with⟨kvs,k,e,_,_⟩|⟨kvs,k,b,e,_,_,_⟩
 ·obtain⟨_,_,vs,_,dd⟩:=dk_rd I.hok e
  exact dd.typeIs
 ·obtain⟨_,_,xs,_,dd⟩:=dt_rd I.hok e
  exact dd.typeIs
def tDGet (td ty:TE):TE:=λ σ H Q=>td σ H λ x H1=>ty σ H1 λ y H2=>∃ a v,x=.ref a/\DGet H2 a y (some v)/\Q v H2
def sDPut (td ty tv:TE):TS:=λ D σ H=>tv σ H λ v H1=>td σ H1 λ x H2=>ty σ H2 λ y H3=>∃ a H4,x=.ref a/\DPut H3 a y v H4/\D.nx σ H4
section
variable {X:Cx}{o i e value:Expr}{pos pos' tpos:Pos}{td ty tv:TE}
theorem pe_dget (hu:X.A.units+1 < cLine)(ho:PE X o td)(hi:PE X i ty)(hs:NoSl i):PE X (.Subscript o i pos) (tDGet td ty):=by
 intro pins s σ H Q I h
 refine subD_of PySem.F.slot_dict_getitem.lookup hs (thn (ho pins s σ H _ I h) λ u s1 ⟨x,H1,I1,rx,q1⟩=>thn (hi pins s1 σ H1 _ I1 q1) λ iv s2 ⟨y,H2,I2,ry,a,v,ex,g,q2⟩=>?_)
 subst ex
 obtain rfl:u=Value.ref a:=rx
 exact⟨dict_typeIs I2 g,d_getItem hu I2 g ry λ w' s3 I3 rw'=>⟨v,H2,I3,rw',q2⟩⟩
theorem ps_dput (hu:X.A.units+1 < cLine)(ho:PE X o td)(hi:PE X i ty)(hv:PE X value tv)(hs:swapsWith value (some (.Subscript o i pos')) pos.line X.env=pure false) :
  PS X (.Assign [.Subscript o i pos'] value pos) (sDPut td ty tv):=by
 intro pins s σ H D I h
 refine wpAny_Assign_Subscript (thn (hv pins s σ H _ I h) λ r s1 ⟨v,H1,I1,rv,q1⟩=>thn (ho pins s1 σ H1 _ I1 q1) λ u s2 ⟨x,H2,I2,rx,q2⟩=>thn (hi pins s2 σ H2 _ I2 q2) λ iv s3 ⟨y,H3,I3,ry,a,H4,ex,g,q3⟩=>?_) hs
 subst ex
 obtain rfl:u=Value.ref a:=rx
 exact d_setItem hu I3 g ry rv λ s4 I4=>⟨σ,H4,I4,q3⟩
end
theorem dk_empty {P:Program}{w:World}{H:Hp}(h:Heap)(hb:sysModules < h.objs.size):ObjOk P w H (h.push { cls:=.type "dict",data:=.dict #[] }) h.objs.size (.dK []):=
 ⟨Nat.zero_le _,beq_eq_false_iff_ne.mpr (Ne.symm (Nat.ne_of_lt hb)),[],.nil,Heap.DictOf.new h⟩
def tDNewK:TE:=λ _ H Q=>∀ p,H p=none->Q (.ref p) (upd H p (.dK []))
section
variable {X:Cx}{pos:Pos}
theorem pe_dnewK:PE X (.Dict [] [] pos) tDNewK:=λ pins s σ H Q I h=>
 wpAny_Dict_empty ⟨.ref s.heap.objs.size,_,I.laid (a:=s.heap.objs.size) (o:=.dK []) (t':=s.toks) (λ _ _ q=>Heap.get?_push_of_some _ q) (Nat.le_refl _) (dk_empty s.heap I.big),rfl,h _ (I.hok.fresh (Nat.le_refl _))⟩
end
def tPairs:List (TE × TE)->St->Hp->(List (V × V)->Hp->Prop)->Prop
 | [],_,H,Q=>Q [] H
 | (tk,tv) :: r,σ,H,Q=>tk σ H λ x H1=>tv σ H1 λ y H2=>tPairs r σ H2 λ ps H3=>Q ((x,y) :: ps) H3
abbrev VV:List (V × V)->List (Value × Value)->Prop:=Paired λ p q=>RelV p.1 q.1/\RelV p.2 q.2
def PPs (X:Cx)(pos:Pos)(keys:List (Option Expr)) (values:List Expr)(trs:List (TE × TE)):Prop:=
 ∀ (pins:List (Addr × Obj)) (s:Shared) (σ:St) (H:Hp) (Q:List (V × V)->Hp->Prop),Inv X pins σ H s->tPairs trs σ H Q->
  wpAny (model X.prog X.w) X.A (evalPairs (pairTrees keys values X.env pos)) (λ vs s'=>∃ ps H',Inv X pins σ H' s'/\VV ps vs/\Q ps H') X.xe s
theorem pps_nil {X:Cx}{pos:Pos}:PPs X pos [] [] []:=λ pins s σ H Q I h=>pairTrees_nil_walk ⟨[],H,I,.nil,h⟩
theorem pps_cons {X:Cx}{pos:Pos}{k v:Expr}{ks:List (Option Expr)}{vs:List Expr}{tk tv:TE}{trs:List (TE × TE)}(hk:PE X k tk)(hv:PE X v tv)(hr:PPs X pos ks vs trs) :
  PPs X pos (some k :: ks) (v :: vs) ((tk,tv) :: trs):=λ pins s σ H Q I h=>
 pairTrees_cons_walk (thn (hk pins s σ H _ I h) λ u s1 ⟨x,H1,I1,rx,q1⟩=>thn (hv pins s1 σ H1 _ I1 q1) λ w2 s2 ⟨y,H2,I2,ry,q2⟩=>
  thn (hr pins s2 σ H2 _ I2 q2) λ ws s3 ⟨ps,H3,I3,rel,q3⟩=>⟨(x,y) :: ps,H3,I3,.cons ⟨rx,ry⟩ rel,q3⟩)
def mergeK (kvs more:List (Key × V)):List (Key × V):=more.foldl (λ acc kv=>putK acc kv.1 kv.2) kvs
theorem KV.merge:∀ {more:List (Key × V)}{rs:List (Key × Value)}{kvs:List (Key × V)}{vs:List (Key × Value)},KV more rs->KV kvs vs->KV (mergeK kvs more) (merged vs rs):=by
 intro more rs kvs vs r
 unfold KV at r
 induction r generalizing kvs vs with
 | nil=>intro q;exact q
 | @cons p q ps qs h t ih=>
  intro r0
  have e:KV (putK kvs p.1 p.2) (stored vs q.1 q.2):=by
   have:=r0.put p.1 h.2
   rw[<-h.1];exact this
  exact ih e
theorem length_mergeK:∀ (more kvs:List (Key × V)),(mergeK kvs more).length<=kvs.length+more.length
 | [],kvs=>by show kvs.length<=kvs.length+0;omega
 | p :: r,kvs=>by
  have h1:=length_mergeK r (putK kvs p.1 p.2)
  have h2:=length_putK kvs p.1 p.2
  show(mergeK (putK kvs p.1 p.2) r).length<=_
  rw[List.length_cons];omega
theorem carries_of {P:Program}{w:World}:∀ {kvs:List (Key × V)}{ws:List (Value × Value)},VV (kvs.map λ kv=>(kV kv.1,kv.2)) ws->∃ rs,Carries (mixKind P w) ws rs/\KV kvs rs
 | [],_,r=>by rw[List.map_nil]at r;cases r;exact⟨[],True.intro,.nil⟩
 | p :: kvs,_,r=>by
  rw[List.map_cons]at r
  cases r with
  | @cons a b as bs h t=>
   obtain⟨rs,c,q⟩:=carries_of (P:=P) (w:=w) t
   obtain⟨b1,b2⟩:=b
   exact⟨(p.1,b2) :: rs,⟨kV_is h.1,rfl,c⟩,.cons ⟨rfl,h.2⟩ q⟩
def tDisp (trs:List (TE × TE)):TE:=λ σ H Q=>∀ p,H p=none->tPairs trs σ (upd H p (.dK [])) λ ps H2=>H2 p=some (.dK [])/\∃ kvs:List (Key × V),ps=kvs.map (λ kv=>(kV kv.1,kv.2))/\kvs.length<=15/\Q (.ref p) (upd H2 p (.dK (mergeK [] kvs)))
theorem pe_disp {X:Cx}{pos:Pos}{keys:List (Option Expr)}{values:List Expr}{trs:List (TE × TE)}(h:PPs X pos keys values trs)(hall:keys.all (·.isSome)=true) (hl:keys.length=values.length)(h0:keys≠[])
  (h15:keys.length<=15):PE X (.Dict keys values pos) (tDisp trs):=by
 intro pins s σ H Q I q
 have hn:=I.hok.fresh (Nat.le_refl s.heap.objs.size)
 have I1:=I.laid (a:=s.heap.objs.size) (o:=.dK []) (h':=s.heap.push { cls:=.type "dict",data:=.dict #[] }) (t':=s.toks) (λ _ _ q=>Heap.get?_push_of_some _ q) (Nat.le_refl _) (dk_empty s.heap I.big)
 refine wpAny_Dict_walk (knd:=mixKind X.prog X.w) hall hl h0 h15 (thn (h pins _ σ _ _ I1 (q _ hn)) λ ws s2 ⟨ps,H2,I2,rel,e,kvs,ep,lk,q2⟩=>?_)
 subst ep
 obtain⟨rs,c,rk⟩:=carries_of (P:=X.prog) (w:=X.w) rel
 obtain⟨z,hd,vs0,r0,dd⟩:=dk_of I2.hok e
 cases r0
 refine⟨rs,c,dd,λ h' dd' hs=>⟨.ref s.heap.objs.size,_,?_,rfl,q2⟩⟩
 have hz:(mergeK [] kvs).length<=sizeLine:=by
  have h1:=length_mergeK kvs []
  rw[List.length_nil]at h1
  rw[sizeLine_eq];omega
 have he:∃ q,h'.get? s.heap.objs.size=some q:=let ⟨q,_,_,hq,_⟩:=dd';⟨q,hq⟩
 exact d_write I2 (by rw[e];exact True.intro) hs he (dk_new hz hd (rk.merge .nil) dd')
structure M1 (X:Cx)(o:Expr)(m:Str)(apos:Pos)(e:Expr)(cpos:Pos):Prop where
 base:attributeBase o m X.env (eval o X.env)=eval o X.env
 few:((backTo cpos (starEach [e] X.env)).all (λ x=>!x.1) && (backToKw cpos (keywordEach [] X.env)).all (λ x=>x.1.isSome)
  && decide (([e]:List Expr).length+([]:List Keyword).length+(if ([]:List Keyword).isEmpty then 0 else 1) < 30))=true
 line:(apos.endLine == cpos.line)=true
 trees:backTo cpos (starEach [e] X.env)=[(false,eval e X.env)]
structure M2 (X:Cx)(o:Expr)(m:Str)(apos:Pos)(e f:Expr)(cpos:Pos):Prop where
 base:attributeBase o m X.env (eval o X.env)=eval o X.env
 few:((backTo cpos (starEach [e,f] X.env)).all (λ x=>!x.1) && (backToKw cpos (keywordEach [] X.env)).all (λ x=>x.1.isSome)
  && decide (([e,f]:List Expr).length+([]:List Keyword).length+(if ([]:List Keyword).isEmpty then 0 else 1) < 30))=true
 line:(apos.endLine == cpos.line)=true
 trees:backTo cpos (starEach [e,f] X.env)=[(false,eval e X.env),(false,eval f X.env)]
section
variable {X:Cx}{pins:List (Addr × Obj)}{σ:St}{H:Hp}{s:Shared}{a:Addr}{y d:V}{u r:Value}{o:Option V}{A:Around}{E:Value->Shared->Prop}
end
section
variable {X:Cx}{o e f:Expr}{apos cpos:Pos}{td ty tx:TE}
end
section
variable {X:Cx}{pins:List (Addr × Obj)}{σ:St}{H:Hp}{s:Shared}{a:Addr}{kvs:List (Key × V)}{A:Around}{E:Value->Shared->Prop}
end
section
variable {X:Cx}{pins:List (Addr × Obj)}{σ:St}{H:Hp}{s:Shared}{a:Addr}{y:V}{u:Value}{A:Around}{E:Value->Shared->Prop}
end
end L2
namespace Att
open PySem PySem.W PySem.Calls PyProof.Rows
theorem ints_of_wellAll {P:Params}{h:Heap}:∀ (ns:List Int) (vs:List Value),WellAll P h vs (ns.map WData.int)->IntsAre vs ns:=by
 intro ns
 induction ns with
 | nil=>
  intro vs w
  rw[List.map_nil]at w
  cases w
  exact .nil
 | cons n ns ih=>
  intro vs w
  rw[List.map_cons]at w
  cases w with
  | cons a b=>
   cases a
   exact .cons _ _ (ih _ b)
theorem script_of {l:OpenLaw}{n:Nat}(hn:l.most=some n){P:Params}{h:Heap}{args:List WData}{vals:List Value}
  (hpre:l.row.toRowW.claim.pre args=true) (hwl:WellAll P h vals args) :
  ∃ a vs ns,vals=[Value.ref a]/\args=[WData.list (ns.map WData.int)]/\h.get? a=some { cls:=.type "list",data:=.seq vs.toArray }/\IntsAre vs ns/\ns.length<=n:=by
 have hsh:WShape.hasAll [] args [.list .int]=true:=(pre_splitW hpre).1
 have hc:l.pre.holds [] { args:=args }=true:=(pre_splitW hpre).2
 obtain⟨d,r,rfl,h1,h2⟩:=hasAllW_cons hsh
 obtain rfl:=hasAllW_nil h2
 obtain⟨xs,rfl,h3⟩:=hasW_list h1
 obtain⟨ns,rfl⟩:=items_int h3
 have hlen:ns.length<=n:=by
  unfold OpenLaw.pre at hc
  have h4:(WTm.not (.lt (.lit (.int (n:Int))) (.len (.arg 0)))).holds [] { args:=[.list (ns.map .int)] }=true:=by
   have h4:=(holds_andW hc).1
   rw[hn]at h4
   exact h4
  have h5:=condW_of h4 (w_not (w_lt w_lit (w_len_list (w_arg rfl))))
  rw[List.length_map]at h5
  refine Nat.le_of_not_lt λ q=>?_
  have q':(n:Int) < ((ns.length:Nat):Int):=by omega
  first
   | (rw[decide_eq_true q']at h5;exact absurd h5 (by decide))
   | (simp at h5;omega)
 cases hwl with
 | cons w1 w2=>
  cases w2
  cases w1 with
  | list ho hall=>exact⟨_,_,ns,rfl,rfl,ho,ints_of_wellAll ns _ hall,hlen⟩
theorem post_true (l:OpenLaw)(args:List WData):l.row.toRowW.claim.post args (.bool true) args=true:=
 postW_of (r:=l.row.toRowW) (X:=(true == true))
  (show WShape.has [] (.bool true) .bool=true by first|rfl|decide|simp[WShape.has,WShape.arms,WShape.armsAll])
  (show(WTm.eq .res (.lit (.bool true))).value [] { args:=args,res:=some (.bool true),after:=args }=some (.bool (true == true)) from w_eq_bool (w_res rfl) w_lit) rfl
theorem attach_call {l:OpenLaw}{n:Nat}{q:Program}{loose:List Str}{XP:(Str->Option Value)->Heap->Prop}{YP:World->Heap->Prop}{d:DefRec}
  (hn:l.most=some n) (hdf:d.params.defaults=[])
  (call:∀ (w:World) (s₀ s₁:Shared) (mg mb:Str->Option Value) (fa:Addr) (o:Obj) (pm cd doc:Value) (a:Addr) (vs:List Value) (ns:List Int),
   Ground q loose [] XP w s₀ mg mb s₁.heap->YP w s₁.heap->
   s₁.heap.get? fa=some o->o.data=.func (docDef d.name d.params d.body d.scope pm cd doc)->s₁.heap.CodeRec cd d.name->mg d.name=some (.ref fa)->
   s₁.heap.get? a=some { cls:=.type "list",data:=.seq vs.toArray }->IntsAre vs ns->ns.length<=n->s₁.gens=#[]->
   codeAny (model l.prog w) callerA (.call (.ref fa) ⟨[.ref a],[]⟩) (λ r s'=>r=.ok (.ret (.bool true))/\OldK s₁.heap s'.heap/\s'.os=s₁.os/\AllBare s'.gens) s₁) :
  WalkO q loose XP YP l.row.toRowW d [] (λ f vs=>PySem.call f vs):=by
 intro w s₀ s₁ mg mb G Y fa o pm cd doc dV kV ho hd hcd hD hmg hg args vals as hpre hlay hrd hwl hlo
 obtain rfl:dV=.none:=Dflts.none hD hdf
 obtain rfl:kV=.none:=Dflts.noKw hD
 obtain⟨a,vs,ns,rfl,rfl,hobj,hints,hlen⟩:=script_of hn hpre hwl
 refine enter_call (codeAny_mono (call w s₀ s₁ mg mb fa o pm cd doc a vs ns G Y ho (fd_plain hd) hcd hmg hobj hints hlen hg) λ r s' hq=>?_)
 obtain⟨rfl,h2,h3,h4⟩:=hq
 exact⟨.inl ⟨.bool true,.bool true,[],rfl,λ _=>rfl,.bool true,post_true l _,λ _=>⟨List.Pairwise.nil,λ _ hm=>(nomatch hm)⟩⟩,h2,h3,h4⟩
section
variable {prog:Program}{w:World}{A:Around}{E:Value->Shared->Prop}{s:Shared}{K:Frag}
end
end Att
namespace L2
open PySem PySem.Spec PyProof.Rows
theorem vals_ints:∀ {vs:List Value}{ns:List Int},IntsAre vs ns->Vals (ns.map V.int) vs
 | _,_,.nil=>.nil
 | _,_,.cons n t h=>.cons ⟨t,rfl⟩ (vals_ints h)
def Only (H:Hp):Prop:=∀ b,H b=none∨∃ o xs,H b=some (.frz o (.lst xs))
theorem law_call {P:Program}{w:World}{K:PySem.W.Frag}{mg mb:Str->Option Value}{CX:CXT}{k:Nat}{fa a:Addr}{fd:FuncData}{x:Str}{sp:Sp}{s₁:Shared}{vs:List Value}{ns:List Int}
  (KX:K.In s₁.heap) (hns:s₁.heap.Ns mainGlobals mg) (hb:s₁.heap.Ns builtinsNs mb) (hbb:∀ x:Str,x≠"__name__"->mb x=bootBuiltins x) (hlim:s₁.heap.NoLimit) (hdg:s₁.heap.NoDigits) (hbm:∃ bm ob,mg "__builtins__"=some (.ref bm)/\bm≠builtinsNs/\s₁.heap.get? bm=some ob/\ob.cls=.type "module"/\ob.dict=some builtinsNs/\ob.data=.plain) (hg:s₁.gens=#[])
  (ha:s₁.heap.get? a=some { cls:=.type "list",data:=.seq vs.toArray }) (hi:IntsAre vs ns) (hl:ns.length<=sizeLine) (hr:Room k callerA)
  (F:∀ base:Heap,K.In base->base.Ns mainGlobals mg->FnOk P w K mg base CX k fa fd [x] sp) (hbind:∀ (s:Shared) (u:Value),BindsTo s fd ⟨[u],[]⟩ [(x,u)])
  (hsp:∀ H:Hp,Only H->SqL K H a (ns.map V.int)->sp [.ref a] H (λ v _=>v=.bl true) λ _ _ _=>False)
  (hCX:∀ H e s',CX [] H s₁ (λ _ _ _=>False) e s'->False) :
  codeAny (model P w) callerA (.call (.ref fa) ⟨[.ref a],[]⟩) (λ r s'=>r=.ok (.ret (.bool true))/\OldK s₁.heap s'.heap/\s'.os=s₁.os/\AllBare s'.gens) s₁:=by
 have rv:=vals_ints hi
 have lenV:=hi.length
 have core:∀ H:Hp,Only H->SqL K H a (ns.map V.int)->HOk P w H s₁.heap->(∀ b,H b≠none->b=a)->(H a≠none->K.lookup a=none)->
   codeAny (model P w) callerA (.call (.ref fa) ⟨[.ref a],[]⟩) (λ r s'=>r=.ok (.ret (.bool true))/\OldK s₁.heap s'.heap/\s'.os=s₁.os/\AllBare s'.gens) s₁:=by
  intro H hO hS hok hA hK
  have base_of:∀ {b:Addr}{o:Obj},s₁.heap.get? b=some o->H b=none->(hidT s₁.heap H).get? b=some o:=λ e n=>hidT_get e n
  have noA:∀ {b:Addr}{o:Obj}{es:Array DictEntry}{ep:Nat},s₁.heap.get? b=some o->o.data=.dict es ep->H b=none:=λ {b o es ep} e d=>by
   cases q:H b with
   | none=>rfl
   | some u=>
    have e':b=a:=hA b (by rw[q];simp)
    subst e'
    rw[ha]at e;cases e
    have d':Data.seq vs.toArray _=Data.dict es ep:=d
    cases d'
  have nsK:∀ {b:Addr}{m:Str->Option Value},s₁.heap.Ns b m->(hidT s₁.heap H).Ns b m:=λ {b m} ⟨o,es,ep,e,d,r⟩=>⟨o,es,ep,base_of e (noA e d),d,r⟩
  have hKb:K.In (hidT s₁.heap H):=λ b o e=>base_of (KX b o e) (by
   cases q:H b with
   | none=>rfl
   | some u=>
    have e':b=a:=hA b (by rw[q];simp)
    subst e'
    rw[hK (by rw[q];simp)]at e;cases e)
  have hM:Mod K mg (hidT s₁.heap H):=⟨hKb,nsK hns,⟨mb,nsK hb,hbb⟩,let ⟨mc,h1,h2⟩:=hlim;⟨mc,nsK h1,h2⟩,let ⟨mc,h1,h2⟩:=hdg;⟨mc,nsK h1,h2⟩,
   let ⟨bm,ob,b1,b2,b3,b4,b5,b6⟩:=hbm;⟨bm,ob,b1,b2,base_of b3 (by
    cases q:H bm with
    | none=>rfl
    | some u=>
     have e':bm=a:=hA bm (by rw[q];simp)
     subst e'
     rw[ha]at b3;cases b3;cases b6),b4,b5,b6⟩⟩
  have e0:Env0 P w K mg (hidT s₁.heap H) callerA [] s₁ H:=⟨rfl,hM,λ b o e=>of_hidT e,Nat.le_of_eq (hidT_size _ _),trivial,λ b hb=>absurd (show b∈([]:List Addr) from hb) (by simp),hok,.of_eq hg⟩
  refine codeAny_mono ((F _ hKb (nsK hns)).run callerA [] s₁ H ⟨[.ref a],[]⟩ [.ref a] [.ref a] _ _ hr e0 (hbind s₁ (.ref a)) (.cons rfl .nil) (hsp H hO hS)) λ r s' h=>?_
  cases r with
  | error e=>exact(hCX H e s' h).elim
  | ok fl=>
   cases fl with
   | next=>exact False.elim h
   | brk=>exact False.elim h
   | cont=>exact False.elim h
   | ret u=>
    obtain⟨v,H',os,bare,un,hok',r',q⟩:=h
    have q':v=.bl true:=q
    subst q'
    obtain rfl:u=Value.bool true:=r'
    refine⟨rfl,OldK.of_keep λ b o e=>?_,os,bare⟩
    cases q:H b with
    | none=>exact un.keep b o e q (by intro z;exact absurd (show b∈([]:List Addr) from z) (by simp)) (by simp)
    | some u=>
     rcases hO b with z|⟨ob,xs,z⟩
     ·rw[q]at z;cases z
     ·have z2:=un.frzs b ob _ z
      obtain⟨e1,_⟩:=hok b _ z
      obtain⟨e2,_⟩:=hok' b _ z2
      rw[e]at e1;cases e1
      exact e2
 cases hk:K.lookup a with
 | some o=>
  have e:=KX a o hk
  rw[ha]at e
  cases e
  refine core (λ _=>none) (λ _=>.inl rfl) (.inr ⟨_,vs.toArray,_,hk,rfl,rfl,rfl,by rw[List.size_toArray,lenV];exact hl,by simpa using rv⟩) (λ b u z=>by have z':(none:Option HO)=some u:=z;cases z') (λ b z=>absurd rfl z) λ z=>absurd rfl z
 | none=>
  refine core (λ b=>if b=a then some (.frz { cls:=.type "list",data:=.seq vs.toArray } (.lst (ns.map V.int))) else none) (λ b=>?_) (.inl (.inr ⟨{ cls:=.type "list",data:=.seq vs.toArray },if_pos rfl⟩)) (λ b u z=>?_) (λ b z=>?_) λ _=>hk
  ·by_cases hb:b=a
   ·exact .inr ⟨_,_,if_pos hb⟩
   ·exact .inl (if_neg hb)
  ·by_cases hb:b=a
   ·have z':=(if_pos hb).symm.trans z
    cases z'
    subst hb
    exact⟨ha,by rw[List.length_map];exact hl,vs,_,rv,ha⟩
   ·have z':=(if_neg hb).symm.trans z
    cases z'
  ·by_cases hb:b=a
   ·exact hb
   ·exact absurd (if_neg hb) z
end L2
namespace L2
open PySem PySem.Spec PyProof.Rows
theorem walk_of {l:PySem.W.OpenLaw}{n k:Nat}{q:Program}{loose:List Str}{XP:(Str->Option Value)->Heap->Prop}{YP:World->Heap->Prop}{d:DefRec}{K:Params->PySem.W.Frag}{CX:World->CXT}{sp:World->Sp}{x:Str}
  (hn:l.most=some n) (hn2:n<=sizeLine) (hdf:d.params.defaults=[]) (hr:Room k callerA)
  (hY:∀ (w:World) (h:Heap),YP w h->(K w.params).In h)
  (F:∀ (w:World) (mg:Str->Option Value) (fa:Addr) (h:Heap),(K w.params).In h->h.Ns mainGlobals mg->mg d.name=some (.ref fa)->
   ∃ fd:FuncData,(∀ (s:Shared) (u:Value),BindsTo s fd ⟨[u],[]⟩ [(x,u)])/\
    ∀ base:Heap,(K w.params).In base->base.Ns mainGlobals mg->FnOk l.prog w (K w.params) mg base (CX w) k fa fd [x] (sp w))
  (hsp:∀ (w:World) (H:Hp) (a:Addr) (ns:List Int),ns.length<=n->Only H->SqL (K w.params) H a (ns.map V.int)->sp w [.ref a] H (λ v _=>v=.bl true) λ _ _ _=>False)
  (hCX:∀ (w:World) (H:Hp) (s:Shared) (e:Value) (s':Shared),CX w [] H s (λ _ _ _=>False) e s'->False) :
  PySem.W.WalkO q loose XP YP l.row.toRowW d [] (λ f vs=>PySem.call f vs):=by
 refine Att.attach_call hn hdf λ w s₀ s₁ mg mb fa o pm cd doc a vs ns G Y ho hd hcd hmg hobj hints hlen hg=>?_
 have KX:=hY w _ Y
 obtain⟨fd,hb,hF⟩:=F w mg fa _ KX G.T.g hmg
 exact law_call KX G.T.g G.T.b G.T.builtins G.T.nolimit G.T.nodigits G.T.bmain hg hobj hints (Nat.le_trans hlen hn2) hr hF hb (λ H hO hS=>hsp w H a ns hlen hO hS) λ H e s'=>hCX w H s₁ e s'
end L2
namespace L2
open PySem PySem.Spec PyProof.Rows
def defArgs (s:Stmt):Arguments:=match s with
 | .FunctionDef _ a _ _ _ _ _ _ _ _=>a
 | _=>{ posonlyargs:=[],args:=[],vararg:=none,kwonlyargs:=[],kw_defaults:=[],kwarg:=none,defaults:=[] }
def defBody (s:Stmt):List Stmt:=match s with
 | .FunctionDef _ _ b _ _ _ _ _ _ _=>b
 | _=>[]
def defScope (s:Stmt):Scope:=match s with
 | .FunctionDef _ _ _ _ _ _ sc _ _ _=>sc
 | _=>{ kind:=.function,names:=[],isGenerator:=false,isCoroutine:=false }
abbrev CX0:CXT:=λ _ _ _ _ _ _=>False
abbrev E0:XK:=λ _ _ _=>False
theorem pass0 {X:Cx}:Passes CX0 X E0:=λ _ _ _ _ _ _ _ h=>h.elim
structure Fun (K:PySem.W.Frag)(x qual:Str)(st:Stmt)(f:Addr)(fd:FuncData):Prop where
 ex:∃ (oc:Value) (od:Option Addr) (kV doc pm:Value) (an:Option Addr) (cdv ct:Value) (osl:Array (Option Value)),
  fd=PySem.W.fnOf x qual (defArgs st) (defBody st) (defScope st) .none kV doc pm an cdv ct/\K.lookup f=some ⟨oc,od,.func fd,osl⟩/\PySem.W.codeIn K cdv qual=true
 kp:PySem.W.keepIn K (.ref f)=true
section
variable {P:Program}{w:World}{K:PySem.W.Frag}{mg:Str->Option Value}{base:Heap}
theorem Fun.ok {x qual:Str}{st:Stmt}{f:Addr}{fd:FuncData}{N ps:List Str}{k:Nat}{sp:Sp}(F:Fun K x qual st f fd)(S:FnScope N ps (defScope st)) (len:∀ vs H Q E,sp vs H Q E->vs.length=ps.length)
  (hbody:∀ (cdv:Value) (A:Around) (outer:List Env) (s:Shared) (H:Hp) (vs:List V) (Q:VK) (E:XK),Room k (A.deeper (envOfC qual (defScope st) s.heap.objs.size f cdv))->sp vs H Q E->
   ∃ t,PSs (cxOf CX0 P w K mg base N qual (defScope st) f cdv A outer s H E).nox (defBody st) t/\t { nx:=λ _ H'=>Q .non H',rt:=Q } (start N vs) H):FnOk P w K mg base CX0 (k+1) f fd ps sp:=by
 obtain⟨oc,od,kV,doc,pm,an,cdv,ct,osl,rfl,lk,hcd⟩:=F.ex
 refine fn_of lk hcd S len λ A outer s H vs Q E hr hsp=>?_
 obtain⟨t,h,q⟩:=hbody cdv A outer s H vs Q E hr hsp
 exact⟨t,h.nox,q⟩
theorem Fun.binds {x qual:Str}{st:Stmt}{f:Addr}{fd:FuncData}{ps:List Str}(F:Fun K x qual st f fd)
  (h:∀ (kV doc pm:Value) (an:Option Addr) (cdv ct:Value) (us:List Value),us.length=ps.length->bindArgs (PySem.W.fnOf x qual (defArgs st) (defBody st) (defScope st) .none kV doc pm an cdv ct) ⟨us,[]⟩=pure (ps.zip us)):Binds K fd ps []:=by
 obtain⟨oc,od,kV,doc,pm,an,cdv,ct,osl,rfl,lk,hcd⟩:=F.ex
 exact .all (h kV doc pm an cdv ct)
theorem fun_mk {x qual:Str}{st:Stmt}{f:Addr}{oc:Value}{od an:Option Addr}{osl:Array (Option Value)}{kV doc pm cdv ct:Value}(l:K.lookup f=some ⟨oc,od,.func (PySem.W.fnOf x qual (defArgs st) (defBody st) (defScope st) .none kV doc pm an cdv ct),osl⟩)
  (c:PySem.W.codeIn K cdv qual=true) (k:PySem.W.keepIn K (.ref f)=true):Fun K x qual st f (PySem.W.fnOf x qual (defArgs st) (defBody st) (defScope st) .none kV doc pm an cdv ct):=⟨⟨oc,od,kV,doc,pm,an,cdv,ct,osl,rfl,l,c⟩,k⟩
end
theorem hu_of {A:Around}{k:Nat}(hr:Room k A):A.units+1 < cLine:=Nat.lt_of_le_of_lt (Nat.add_le_add_left (by decide:1<=64) _) hr.units
theorem small1000 {n:Nat}(h:n<=1000):n < sizeLine:=Nat.lt_of_le_of_lt h (by decide)
section
variable {X:Cx}
theorem pv (i:Nat){x:Str}{pos:Pos}(hN:X.N[i]? = some x:=by rfl)(hv:Vis X.env.scope x:=by first|exact Or.inl rfl|exact Or.inr (Or.inl rfl)|exact Or.inr (Or.inr rfl)) (hd:(x == ("__debug__":Str))=false:=by decide)
  (hcd:(x == ("__classdict__":Str))=false:=by decide):PE X (.Name x pos) (tVar i):=pe_var hN hv hd hcd
end
section
variable {κ:Type} [DecidableEq κ]
end
end L2
set_option maxHeartbeats 4000000
namespace L2
open PySem PySem.Spec PyProof.Rows
def SrcOk (X:Cx)(scope:Scope):List (Str × Option Nat)->Prop
 | []=>True
 | (_,none) :: r=>SrcOk X scope r
 | (x,some j) :: r=>(X.N[j]? = some x/\scope.names.lookup x=some .free/\(X.env.kindOf x=some .cell∨X.env.kindOf x=some .free))/\SrcOk X scope r
def srcV (l:List (Str × Option Nat)) (σ:St):St:=l.map λ p=>p.2.bind λ j=>(σ[j]?).join
theorem SrcOk.get {X:Cx}{scope:Scope}:∀ {l:List (Str × Option Nat)},SrcOk X scope l->∀ {i:Nat}{x:Str}{j:Nat},l[i]? = some (x,some j)->
  X.N[j]? = some x/\scope.names.lookup x=some .free/\(X.env.kindOf x=some .cell∨X.env.kindOf x=some .free)
 | [],_,i,x,j,e=>by simp at e
 | (y,none) :: r,h,0,x,j,e=>by simp at e
 | (y,none) :: r,h,i+1,x,j,e=>SrcOk.get (l:=r) h (i:=i) (by simpa using e)
 | (y,some k) :: r,h,0,x,j,e=>by
  simp at e
  obtain⟨rfl,rfl⟩:=e
  exact h.1
 | (y,some k) :: r,h,i+1,x,j,e=>SrcOk.get (l:=r) h.2 (i:=i) (by simpa using e)
theorem closure_ok (env:Env):∀ (names:List (Str × NameKind)) (cs0:List (Str × Addr)),(∀ x∈names,x.2=.free->∃ c,env.cells.lookup x.1=some c)->
  ∃ cl,(forIn names cs0 (λ(x:Str × NameKind) (cs:List (Str × Addr))=>(if x.2 == .free then do let a <-cellOf env x.1;pure (ForInStep.yield ((x.1,a) :: cs)) else pure (ForInStep.yield cs):Sem (ForInStep (List (Str × Addr))))))=pure cl/\
   (∀ y c,cl.lookup y=some c->env.cells.lookup y=some c∨cs0.lookup y=some c)/\(∀ x∈names,x.2=.free->∃ c,cl.lookup x.1=some c )/\(∀ y,(∃ c,cs0.lookup y=some c)->∃ c,cl.lookup y=some c)
 | [],cs0,h=>⟨cs0,rfl,λ _ _ e=>.inr e,λ _ hx=>(nomatch hx),λ _ e=>e⟩
 | (n,k) :: r,cs0,h=>by
  by_cases hk:k=.free
  ·subst hk
   obtain⟨c,ec⟩:=h (n,.free) List.mem_cons_self rfl
   obtain⟨cl,e1,e2,e3,e4⟩:=closure_ok env r ((n,c) :: cs0) λ x hx=>h x (List.mem_cons_of_mem _ hx)
   have hc:cellOf env n=pure c:=by
    unfold cellOf
    have ec':env.cells.lookup n=some c:=ec
    rw[ec']
   have own:∃ c',cl.lookup n=some c':=e4 n ⟨c,by simp[List.lookup_cons]⟩
   refine⟨cl,?_,λ y d e=>?_,λ x hx hf=>?_,λ y ⟨d,e⟩=>?_⟩
   ·rw[List.forIn_cons]
    simp only[beq_self_eq_true,if_true,hc,pure_bind]
    exact e1
   ·rcases e2 y d e with z|z
    ·exact .inl z
    ·rw[List.lookup_cons]at z
     split at z
     ·rename_i hy
      have:y=n:=by simpa using hy
      subst this
      cases z
      exact .inl ec
     ·exact .inr z
   ·rcases List.mem_cons.mp hx with rfl|hx
    ·exact own
    ·exact e3 x hx hf
   ·refine e4 y ?_
    rw[List.lookup_cons]
    split
    ·exact⟨_,rfl⟩
    ·exact⟨d,e⟩
  ·obtain⟨cl,e1,e2,e3,e4⟩:=closure_ok env r cs0 λ x hx=>h x (List.mem_cons_of_mem _ hx)
   have hb:(k == NameKind.free)=false:=by simpa using hk
   refine⟨cl,?_,e2,λ x hx hf=>?_,e4⟩
   ·rw[List.forIn_cons]
    simp only[hb,Bool.false_eq_true,if_false,pure_bind]
    exact e1
   ·rcases List.mem_cons.mp hx with rfl|hx
    ·exact absurd hf hk
    ·exact e3 x hx hf
theorem closureFor_ok {scope:Scope}{env:Env}(h:∀ x∈scope.names,x.2=.free->∃ c,env.cells.lookup x.1=some c) :
  ∃ cl,closureFor scope env=pure cl/\(∀ y c,cl.lookup y=some c->env.cells.lookup y=some c)/\∀ x∈scope.names,x.2=.free->∃ c,cl.lookup x.1=some c:=by
 obtain⟨cl,e1,e2,e3,_⟩:=closure_ok env scope.names [] h
 refine⟨cl,?_,λ y c e=>(e2 y c e).elim id λ z=>by simp at z,e3⟩
 unfold closureFor
 have e1':=e1
 simp only[bind_pure_comp]at e1' ⊢
 first
  | (rw[e1'];rfl)
  | (simp only[e1'];rfl)
  | (simpa using e1')
theorem lookup_relabel_free {env:Env}:∀ {names:List (Str × NameKind)}{x:Str},names.lookup x=some .free->
    ((names.map λ(n,k)=>if (k == NameKind.free && env.scope.kind == .function && env.kindOf n == some .cell) then (n,NameKind.cell) else (n,k)).lookup x=some .cell∨
     (names.map λ(n,k)=>if (k == NameKind.free && env.scope.kind == .function && env.kindOf n == some .cell) then (n,NameKind.cell) else (n,k)).lookup x=some .free)
  | [],_,h=>by simp at h
  | (n,k) :: r,x,h=>by
    have ih:=@lookup_relabel_free env r x
    show List.lookup x ((if (k == NameKind.free && env.scope.kind == .function && env.kindOf n == some .cell)=true then (n,NameKind.cell) else (n,k)) :: _)=_∨List.lookup x ((if (k == NameKind.free && env.scope.kind == .function && env.kindOf n == some .cell)=true then (n,NameKind.cell) else (n,k)) :: _)=_
    cases hx:x == n with
    | true=>
      simp only[List.lookup_cons,hx]at h
      cases h
      by_cases hc:(NameKind.free == NameKind.free && env.scope.kind == .function && env.kindOf n == some .cell)=true
      · rw[if_pos hc];left;simp[List.lookup_cons,hx]
      · rw[if_neg hc];right;simp[List.lookup_cons,hx]
    | false=>
      simp only[List.lookup_cons,hx]at h
      by_cases hc:(k == NameKind.free && env.scope.kind == .function && env.kindOf n == some .cell)=true
      · rw[if_pos hc];simp only[List.lookup_cons,hx];exact ih h
      · rw[if_neg hc];simp only[List.lookup_cons,hx];exact ih h
theorem relabel_back {env:Env}{x:Str}:∀ {names:List (Str × NameKind)},
    ((names.map λ(n,k)=>if (k == NameKind.free && env.scope.kind == .function && env.kindOf n == some .cell) then (n,NameKind.cell) else (n,k)).lookup x=some .cell∨
     (names.map λ(n,k)=>if (k == NameKind.free && env.scope.kind == .function && env.kindOf n == some .cell) then (n,NameKind.cell) else (n,k)).lookup x=some .free)->(x,NameKind.free)∈names∨names.lookup x=some .cell
  | [],h=>by simp at h
  | (n,k) :: r,h=>by
    have ih:=@relabel_back env x r
    simp only[List.map_cons]at h
    by_cases hb:(k == NameKind.free && env.scope.kind == .function && env.kindOf n == some .cell)=true
    · rw[if_pos hb]at h
      have hkf:k=.free:=by
        have:=(Bool.and_eq_true_iff.mp (Bool.and_eq_true_iff.mp hb).1).1
        simpa using this
      by_cases hx:x=n
      · rw[hx,hkf];exact .inl List.mem_cons_self
      · have hx':(x == n)=false:=by simpa using hx
        simp only[List.lookup_cons,hx']at h ⊢
        exact(ih h).imp (List.mem_cons_of_mem _) id
    · rw[if_neg hb]at h
      by_cases hx:x=n
      · have hx':(x == n)=true:=by simpa using hx
        simp only[List.lookup_cons,hx']at h ⊢
        rcases h with h|h
        · exact .inr h
        · rw[hx,Option.some.inj h];exact .inl List.mem_cons_self
      · have hx':(x == n)=false:=by simpa using hx
        simp only[List.lookup_cons,hx']at h ⊢
        exact(ih h).imp (List.mem_cons_of_mem _) id
theorem cellsFrom_app:∀ (names:List (Str × NameKind)) (n:Nat)(acc more:List (Str × Addr)),cellsFrom n names (acc++more)=cellsFrom n names acc++more
 | [],_,_,_=>rfl
 | (x,k) :: r,n,acc,more=>by
  unfold cellsFrom
  split
  ·exact cellsFrom_app r (n+1) ((x,n) :: acc) more
  ·exact cellsFrom_app r n acc more
theorem cellsFrom_mem:∀ (names:List (Str × NameKind)) (n:Nat)(acc:List (Str × Addr)) (x:Str)(c:Addr),(x,c)∈cellsFrom n names acc->(x,NameKind.cell)∈names∨(x,c)∈acc
 | [],_,_,_,_,h=>.inr h
 | (y,k) :: r,n,acc,x,c,h=>by
  unfold cellsFrom at h
  split at h
  ·rename_i hk
   have hk:k=.cell:=by simpa using hk
   rcases cellsFrom_mem r _ _ x c h with z|z
   ·exact .inl (List.mem_cons_of_mem _ z)
   ·rcases List.mem_cons.mp z with z|z
    ·cases z;rw[hk];exact .inl List.mem_cons_self
    ·exact .inr z
  ·exact(cellsFrom_mem r _ _ x c h).imp (List.mem_cons_of_mem _) id
theorem newFunctionEnv_comp {M:Model}{A:Around}{E:Value->Shared->Prop}{s:Shared}{scope:Scope}{globals:Addr}{closure:List (Str × Addr)}{qual:Str}{outer:Env}{Q:Env->Shared->Prop}
  (hQ:Q (newEnv scope s.heap.objs.size globals (cellsFrom (s.heap.objs.size+1) scope.names closure) qual none .none (some outer) 0) { s with heap:=pushCells (s.heap.push { cls:=.type "dict",data:=.dict #[] }) scope.names }) :
  wpAny M A (newFunctionEnv scope globals closure [] qual none .none (some outer)) Q E s:=by
 simp only[newFunctionEnv,Option.isSome_some,if_true]
 refine wpAny_bind (wpAny_alloc ?_)
 refine wpAny_bind (wpAny_layCells _ (λ name kind cells=>by cases hkc:kind == NameKind.cell<;>simp[hkc]) _ _ _ _ ?_)
 rw[show({ s with heap:=s.heap.push { cls:=.type "dict",data:=.dict #[] } }:Shared).heap.objs.size=s.heap.objs.size+1 from Heap.size_push ..]
 exact wpAny_bind (wpAny_pure (wpAny_pure hQ))
def cxComp (X:Cx)(l:List (Str × Option Nat)) (scope:Scope)(cl:List (Str × Addr)) (C:Addr)(fp:List Addr)(s3:Shared)(H3:Hp):Cx:=
 { X with N:=l.map (·.1),s₀:=s3,H₀:=H3,env:=compEnvC scope cl C X.env,outer:=X.stack,ex:=fp,fn:=λ x=>scope.names.lookup x == some .cell,pn:=[],xe:=λ _ _=>False }
def PIf (X:Cx)(ifs:List Expr)(t:TT):Prop:=
 ∀ (pins:List (Addr × Obj)) (s:Shared) (σ:St) (H:Hp) (Q:Bool->Hp->Prop),Inv X pins σ H s->t σ H Q->
  wpAny (model X.prog X.w) X.A (forIn ifs true λ c r=>if r=true then do let ok <-isTrue c X.env (eval c X.env);pure (ForInStep.yield ok) else pure (ForInStep.yield r)) (TP X pins σ Q) X.xe s
def tYes:TT:=λ _ H Q=>Q true H
theorem pif_nil {X:Cx}:PIf X [] tYes:=λ _ _ _ H _ I h=>wpAny_tests_nil ⟨H,I,h⟩
theorem pif_one {X:Cx}{c:Expr}{t:TT}(h:PT X c t):PIf X [c] t:=λ pins s σ H Q I hw=>wpAny_tests_one (h pins s σ H Q I hw)
def TurnIs (e tg:Expr)(ifs:List Expr)(p:Pos)(d:Nat)(body:Value->Env->Sem Unit):Prop:=
 ∀ it acc env,compTurn e d it acc env=(standAt p >>= λ _=>pyNext it >>= λ r=>match r with
  | none=>pure (.done .next)
  | some v=>letOwnedTupleGo tg it v >>= λ _=>assign tg env v >>= λ _=>(forIn ifs true λ c r=>if r=true then do let ok <-isTrue c env (eval c env);pure (ForInStep.yield ok) else pure (ForInStep.yield r)) >>= λ ok=>
   if ok=true then body acc env >>= λ _=>again (.compLoop e d it acc env) else again (.compLoop e d it acc env))
def LorS (e:Expr):Prop:=(∃ a b c d,e=.ListComp a b c d)∨∃ a b c d,e=.SetComp a b c d
theorem compLoop_any {prog:Program}{w:World}{A:Around}{R:Result->Shared->Prop}{s:Shared}{e tg:Expr}{ifs:List Expr}{p:Pos}{d:Nat}{body:Value->Env->Sem Unit}(hn:LorS e)(ht:TurnIs e tg ifs p d body){it acc:Value}{env:Env}(I:Nat->Shared->Prop)
  (turn:∀ n s,I n s->wpAny (model prog w) A (pyNext it) (λ r s₁=>match r with
   | none=>R (.ok .next) s₁
   | some v=>wpAny (model prog w) A (letOwnedTupleGo tg it v) (λ _ s₁'=>wpAny (model prog w) A (assign tg env v) (λ _ s₂=>
     wpAny (model prog w) A (forIn ifs true λ c r=>if r=true then do let ok <-isTrue c env (eval c env);pure (ForInStep.yield ok) else pure (ForInStep.yield r)) (λ ok s₃=>
      if ok=true then wpAny (model prog w) A (body acc env) (λ _ s₅=>∃ m,m < n/\I m s₅) (λ _ _=>False) s₃
      else ∃ m,m < n/\I m s₃) (λ _ _=>False) s₂) (λ _ _=>False) s₁') (λ _ _=>False) s₁) (λ _ _=>False) s)
  (n:Nat) (h:I n s) :
  codeAny (model prog w) A (.compLoop e d it acc env) R s:=by
 have no:∀ {α:Type}{t:Sem α}{Q:α->Shared->Prop}{E:Value->Shared->Prop}{s:Shared},wpAny (model prog w) A t Q (λ _ _=>False) s->wpAny (model prog w) A t Q E s:=λ h=>wpAny_mono h (λ _ _ q=>q) λ _ _ f=>f.elim
 refine codeAny_loop rfl I (λ n s hI=>?_) n h
 have hd:(model prog w).den (.compLoop e d it acc env)=(compTurn e d it acc env).onRaise (λ x=>do noteFrame x env;theTreesLotGoes x):=by rcases hn with⟨_,_,_,_,rfl⟩|⟨_,_,_,_,rfl⟩<;>rfl
 have hu:A.under (.compLoop e d it acc env)=A:=by rcases hn with⟨_,_,_,_,rfl⟩|⟨_,_,_,_,rfl⟩<;>rfl
 rw[hd,hu]
 refine wpAny_noted ?_
 rw[ht]
 refine wpAny_bind (wpAny_standAt (wpAny_bind (thn (no (turn n s hI)) (λ r s₁ h₁=>?_))))
 cases r with
 | none=>exact wpAny_pure h₁
 | some v=>
  refine wpAny_bind (thn (no h₁) λ _ s1' h1'=>?_)
  refine wpAny_bind (thn (no h1') (λ _ s₂ h₂=>wpAny_bind (thn (no h₂) (λ ok s₃ h₃=>?_))))
  cases ok with
  | false=>exact wpAny_pure ⟨rfl,h₃⟩
  | true=>exact wpAny_bind (thn (no h₃) (λ _ s₅ h₅=>wpAny_pure ⟨rfl,h₅⟩))
theorem compStart_any {prog:Program}{w:World}{A:Around}{R:Result->Shared->Prop}{s:Shared}{e:Expr}{d:Nat}{gc:Comprehension}{it acc:Value}{env:Env}(hn:LorS e)(hg:(clausesOf e)[d]? = some gc) (ha:gc.is_async=0)
  (h0:codeAny (model prog w) A (.compLoop e d it acc env) R s)
  (h:wpAny (model prog w) A (pyIter it) (λ it' s'=>codeAny (model prog w) A (.compLoop e d it' acc env) R s') (λ _ _=>False) s) :
  codeAny (model prog w) A (.compStart e d it acc env) R s:=by
 refine codeAny_of_tree ?_
 have hd:(model prog w).den (.compStart e d it acc env)=(compStart e d it acc env).onRaise (λ x=>do noteFrame x env;standAt theWindowsPlace):=by rcases hn with⟨_,_,_,_,rfl⟩|⟨_,_,_,_,rfl⟩<;>rfl
 have hu:A.under (.compStart e d it acc env)=A:=by rcases hn with⟨_,_,_,_,rfl⟩|⟨_,_,_,_,rfl⟩<;>rfl
 rw[hd,hu]
 refine wpAny_notedAt ?_
 unfold compStart
 rw[hg]
 have e1:(some gc).elim false (λ x=>x.is_async != 0)=false:=by show(gc.is_async != 0)=false;rw[ha];rfl
 rw[e1]
 show wpAny _ _ (ask >>= _) _ _ s
 refine wpAny_bind (wpAny_askSetting (wpAny_ite ?_))
 split
 ·first
   | exact wpAny_bind (wpAny_pure (wpAny_pure (And.intro rfl h0)))
   | exact wpAny_pure (And.intro rfl h0)
 ·exact wpAny_bind (wpAny_rule (wpAny_bind (wpAny_standAt (wpAny_bind (wpAny_mono h (λ it' s' h'=>wpAny_pure (And.intro rfl h')) λ _ _ x=>x.elim)))))
def CompW (l:List (Str × Option Nat)) (g:TG)(tt:TT)(te:TE)(J:It)(σ:St)(H1:Hp)(Q:Addr->Hp->Prop):Prop:=
 ∀ D,H1 D=none->∃ W:Nat->Nat->List V->St->Hp->Prop,(∃ m,W 0 m [] (srcV l σ) (upd H1 D (.lst [])))/\∀ i m ys σ1 H2,W i m ys σ1 H2->
  (J.stop i H2/\Q D H2)∨(J.go i H2/\∀ x H3,J.yld i H2 x H3->g x σ1 H3 λ σ2 H4=>tt σ2 H4 λ b H5=>
   if b=true then te σ2 H5 λ v H6=>H6 D=some (.lst ys)/\ys.length < sizeLine/\∃ m',m' < m/\W (i+1) m' (ys++[v]) σ2 (upd H6 D (.lst (ys++[v]))) else ∃ m',m' < m/\W (i+1) m' ys σ2 H5)
def tCompB (l:List (Str × Option Nat)) (wi:TI)(g:TG)(tt:TT)(te:TE)(σ:St)(H:Hp)(Q:Addr->Hp->Prop):Prop:=
 wi σ H λ J H1=>CompW l g tt te J σ H1 Q
theorem comp_any {α:Type}{X:Cx}{e tg:Expr}{ifs:List Expr}{scope:Scope}{cl:List (Str × Addr)}{l:List (Str × Option Nat)}{g:TG}{tt:TT}{body:Value->Env->Sem Unit}{p:Pos}{gc:Comprehension}{D:Addr}
  (hn:LorS e) (hturn:TurnIs e tg ifs p 0 body) (hgc:(clausesOf e)[0]? = some gc) (has:gc.is_async=0)
  (hcl1:∀ y c,cl.lookup y=some c->X.env.cells.lookup y=some c) (hcl2:∀ x∈scope.names,x.2=.free->∃ c,cl.lookup x.1=some c)
  (hkind:scope.kind=.function) (hcell:∀ y∈scope.names,y.2=.cell->scope.names.lookup y.1=some .cell) (hcalm:X.calm=true) (hsrc:SrcOk X scope l)
  (hg:∀ cl C fp s3 H3,PG (cxComp X l scope cl C fp s3 H3) tg g) (ht:∀ cl C fp s3 H3,PIf (cxComp X l scope cl C fp s3 H3) ifs tt)
  {pins:List (Addr × Obj)}{σ:St}{H3:Hp}{s3:Shared}{it:Addr}{fp:List Addr}{tn:Nat->Heap->Prop}{J:It}{Q:Hp->Prop}{RR:Addr->Result->Shared->Prop}{E:Value->Shared->Prop}
  {W:Nat->Nat->α->St->Hp->Prop}{B:Nat->Nat->α->St->Hp->Prop}{m0:Nat}{y0:α}
  (hb:∀ cl C fp s3 H3 pins s i m ys σ H,Inv (cxComp X l scope cl C fp s3 H3) pins σ H s->B i m ys σ H->
   wpAny (model X.prog X.w) X.A (body (.ref D) (compEnvC scope cl C X.env)) (λ _ s'=>∃ m' ys' σ' H',m' < m/\Inv (cxComp X l scope cl C fp s3 H3) pins σ' H' s'/\W (i+1) m' ys' σ' H') (λ _ _=>False) s)
  (I3:Inv X pins σ H3 s3) (T:Turn X.prog X.w X.K tg J fp it tn) (st3:tn 0 s3.heap) (hfp3:∀ b∈fp,FpOk X pins H3 b)
  (w0:W 0 m0 y0 (srcV l σ) H3)
  (turn:∀ i m ys σ1 H2,W i m ys σ1 H2->(J.stop i H2/\Q H2)∨(J.go i H2/\∀ x H3,J.yld i H2 x H3->g x σ1 H3 λ σ2 H4=>tt σ2 H4 λ b H5=>if b=true then B i m ys σ2 H5 else ∃ m',m' < m/\W (i+1) m' ys σ2 H5))
  (hRR:∀ C (s':Shared) (H':Hp),Q H'->(∃ m,s'.heap.Ns C m)->Inv X pins σ H' s'->FpOk X pins H' C->RR C (.ok .next) s') :
  wpAny (model X.prog X.w) X.A (newFunctionEnv scope X.env.globals cl [] X.env.qual none .none (some X.env)) (λ cenv s₄=>
   codeAny (model X.prog X.w) X.A (.compStart e 0 (.ref it) (.ref D) { cenv with scope:=relabel scope X.env }) (RR cenv.locals) s₄) E s3:=by
 refine newFunctionEnv_comp ?_
 have eC:(newEnv scope s3.heap.objs.size X.env.globals (cellsFrom (s3.heap.objs.size+1) scope.names cl) X.env.qual none Value.none (some X.env) 0).locals=s3.heap.objs.size:=rfl
 have cok:=cellsFrom_ok scope.names (s3.heap.push { cls:=.type "dict",data:=.dict #[] }) (s3.heap.objs.size+1) [] ⟨λ _ _ hm=>(nomatch hm),List.Pairwise.nil⟩ (by rw[Heap.size_push];exact Nat.le_refl _)
 rw[Heap.size_push]at cok
 have ecs:cellsFrom (s3.heap.objs.size+1) scope.names cl=cellsFrom (s3.heap.objs.size+1) scope.names []++cl:=cellsFrom_app scope.names _ [] cl
 have hns:(pushCells (s3.heap.push { cls:=.type "dict",data:=.dict #[] }) scope.names).Ns s3.heap.objs.size (λ _=>none):=(Heap.Ns.new s3.heap (.type "dict")).keeps (pushCells_keeps _ _)
 have old:∀ b o,s3.heap.get? b=some o->(pushCells (s3.heap.push { cls:=.type "dict",data:=.dict #[] }) scope.names).get? b=some o:=λ b o e=>pushCells_keeps _ _ b o (Heap.get?_push_of_some _ e)
 rw[ecs]at *
 have ownN:∀ x c,(cellsFrom (s3.heap.objs.size+1) scope.names []).lookup x=some c->scope.names.lookup x=some .cell:=λ x c e=>by
  rcases cellsFrom_mem _ _ _ _ _ (mem_of_lookup e) with z|z
  ·exact hcell _ z rfl
  ·exact nomatch z
 have ownS:∀ x,scope.names.lookup x=some .cell->∃ c,(cellsFrom (s3.heap.objs.size+1) scope.names []).lookup x=some c:=λ x e=>Option.isSome_iff_exists.mp (PySem.W.cellsFrom_some scope.names _ [] (.inl e))
 generalize hown:cellsFrom (s3.heap.objs.size+1) scope.names []=own at *
 generalize hh4:pushCells (s3.heap.push { cls:=.type "dict",data:=.dict #[] }) scope.names=h4 at *
 generalize hC:s3.heap.objs.size=C at *
 have eE:({ newEnv scope C X.env.globals (own++cl) X.env.qual none Value.none (some X.env) 0 with scope:=relabel scope X.env }:Env)=compEnvC scope (own++cl) C X.env:=rfl
 have cs_of:∀ x c,(own++cl).lookup x=some c->(own.lookup x=some c/\h4.IsCell c none/\C+1<=c)∨(own.lookup x=none/\cl.lookup x=some c):=λ x c e=>by
  rw[List.lookup_append]at e
  cases q:own.lookup x with
  | none=>rw[q]at e;exact .inr ⟨rfl,e⟩
  | some d=>rw[q]at e;cases e;exact .inl ⟨rfl,cok.empty x c (mem_of_lookup q)⟩
 have of_cl:∀ x c,scope.names.lookup x≠some .cell->cl.lookup x=some c->(own++cl).lookup x=some c:=λ x c n e=>by
  rw[List.lookup_append]
  cases q:own.lookup x with
  | none=>exact e
  | some d=>exact(n (ownN x d q)).elim
 have cltC:∀ y c,cl.lookup y=some c->c < C:=λ y c e=>by
  obtain⟨v,q⟩:=I3.cell y c (hcl1 y c e)
  have:=q.lt
  rw[hC]at this
  exact this
 have fpC:∀ b∈fp,b≠C:=λ b hb z=>by
  obtain⟨o,ho,_⟩:=T.obj _ _ st3 b hb
  exact absurd (Heap.lt_size ho) (by rw[z,hC];exact Nat.lt_irrefl _)
 have cellC:∀ y c,(own++cl).lookup y=some c->c≠C:=λ y c e z=>by
  rcases cs_of y c e with⟨_,_,q⟩|⟨_,q⟩
  ·rw[z]at q;exact absurd q (Nat.not_succ_le_self _)
  ·exact absurd (cltC y c q) (by rw[z];exact Nat.lt_irrefl _)
 have fpB:∀ b∈fp,b < C:=λ b hb=>by
  obtain⟨o,ho,_⟩:=T.obj _ _ st3 b hb
  rw[<-hC];exact Heap.lt_size ho
 have fpCs:∀ b∈fp,∀ x c,(own++cl).lookup x=some c->c≠b:=λ b hb x c e z=>by
  rcases cs_of x c e with⟨_,_,q⟩|⟨_,q⟩
  ·rw[z]at q;exact absurd (Nat.lt_of_lt_of_le (fpB b hb) (Nat.le_of_succ_le q)) (Nat.lt_irrefl _)
  ·exact(hfp3 b hb).2.2.2.2.1 x c (hcl1 x c q) z
 have H3C:H3 C=none:=by
  have:=I3.fresh
  rw[hC]at this
  exact this
 have OK:(cxComp X l scope (own++cl) C fp s3 H3).Ok:={
  mod:=I3.ok.mod
  kind:=hkind
  glob:=I3.ok.glob
  blt:=I3.ok.blt
  above:=Nat.le_of_eq hC
  inj:=λ x y c e1 e2=>by
   rcases cs_of x c e1 with⟨p1,_,p3⟩|⟨_,p1⟩<;>rcases cs_of y c e2 with⟨q1,_,q3⟩|⟨_,q1⟩
   ·exact name_of_addr cok.apart (mem_of_lookup p1) (mem_of_lookup q1)
   ·exact absurd (cltC y c q1) (Nat.not_lt.mpr (Nat.le_of_succ_le p3))
   ·exact absurd (cltC x c p1) (Nat.not_lt.mpr (Nat.le_of_succ_le q3))
   ·exact I3.ok.inj x y c (hcl1 x c p1) (hcl1 y c q1)
  has:=λ x hx=>by
   show ∃ c,(own++cl).lookup x=some c
   rw[List.lookup_append]
   cases q:own.lookup x with
   | some d=>exact⟨d,rfl⟩
   | none=>
    rcases relabel_back hx with z|z
    ·obtain⟨c,e⟩:=hcl2 (x,.free) z rfl
     exact⟨c,e⟩
    ·obtain⟨c,e⟩:=ownS x z
     rw[q]at e;cases e
  cab:=λ x c hf e=>by
   have hf:(scope.names.lookup x == some NameKind.cell)=true:=hf
   have hf:scope.names.lookup x=some .cell:=by simpa using hf
   obtain⟨d,ed⟩:=ownS x hf
   rcases cs_of x c e with⟨_,_,q⟩|⟨q,_⟩
   ·show s3.heap.objs.size<=c
    rw[hC];omega
   ·rw[q]at ed;cases ed
  hd:=I3.ok.hd
  frames:=I3.ok.frames
  stk:=.inl rfl
  exf:=λ b hb=>⟨fpC b hb,fpCs b hb⟩
  bs:=λ b o e=>I3.bs b o e
  bsz:=Nat.le_trans I3.ok.bsz I3.sz
  noex:=λ b o e hb=>by
   rcases(hfp3 b hb).2.2.2.1 with z|z
   ·exact I3.ok.noex b o e z
   ·exact absurd (Nat.lt_of_lt_of_le (Heap.lt_size e) (Nat.le_trans I3.ok.bsz z)) (Nat.lt_irrefl _)
  exfs:=λ b hb hz=>by
   rcases List.mem_cons.mp (I3.stkSub b hz) with z|z
   ·exact(hfp3 b hb).2.1 z
   ·exact(hfp3 b hb).2.2.1 z
  funs:=I3.stack
  frf:=I3.stkFree }
 have fpX:∀ {H':Hp},(∀ b∈fp,H' b=none)->∀ b∈fp,FpOk (cxComp X l scope (own++cl) C fp s3 H3) [] H' b:=λ hn b hb=>
  ⟨hn b hb,fpC b hb,OK.exfs b hb,.inl hb,fpCs b hb,λ p hp=>nomatch hp⟩
 have I4:Inv (cxComp X l scope (own++cl) C fp s3 H3) [] (srcV l σ) H3 { s3 with heap:=h4 }:={
  ok:=OK
  os:=rfl
  bare:=I3.bare
  base:=Un.kept old
  loc:=by
   refine⟨_,hns,λ i x v e1 e2 e3=>?_⟩
   have e1':(l.map (·.1))[i]? = some x:=e1
   have e2':(l.map λ p=>p.2.bind λ j=>(σ[j]?).join)[i]? = some (some v):=e2
   rw[List.getElem?_map]at e1' e2'
   cases el:l[i]? with
   | none=>rw[el]at e1';cases e1'
   | some p=>
    rw[el]at e1' e2'
    obtain⟨y,o⟩:=p
    have e1'':y=x:=Option.some.inj e1'
    subst e1''
    cases o with
    | none=>cases e2'
    | some j=>
     have e2'':(σ[j]?).join=some v:=Option.some.inj e2'
     have ej:σ[j]? = some (some v):=by
      cases q:σ[j]? with
      | none=>rw[q]at e2'';cases e2''
      | some z=>rw[q]at e2'';exact congrArg some e2''
     obtain⟨k1,k2,k3⟩:=hsrc.get el
     obtain⟨m,hn,hl⟩:=I3.loc
     obtain⟨u,r,lk⟩:=hl j y v k1 ej (k3.elim (λ z=>.inr (.inl z)) λ z=>.inr (.inr z))
     refine⟨u,r,.inr ⟨lookup_relabel_free k2,?_⟩⟩
     rcases lk with⟨z,_⟩|⟨_,c,ec,hcell'⟩
     ·rcases k3 with k3|k3<;>(rw[z]at k3;cases k3)
     ·have hm:(y,NameKind.free)∈scope.names:=by
       have:∀ {names:List (Str × NameKind)},names.lookup y=some NameKind.free->(y,NameKind.free)∈names:=by
        intro names
        induction names with
        | nil=>intro h;simp at h
        | cons q r ih=>
         intro h
         obtain⟨n,k⟩:=q
         rw[List.lookup_cons]at h
         split at h
         ·rename_i hy
          have:y=n:=by simpa using hy
          subst this
          cases h
          exact List.mem_cons_self
         ·exact List.mem_cons_of_mem _ (ih h)
       exact this k2
      obtain⟨c',ec'⟩:=hcl2 _ hm rfl
      have:c'=c:=by
       have:=hcl1 _ _ ec'
       rw[ec]at this
       exact(Option.some.inj this).symm
      subst this
      obtain⟨o,ho,hd⟩:=hcell'
      exact⟨c',of_cl _ _ (by rw[k2];intro z;cases z) ec',o,old _ _ ho,hd⟩
  cell:=λ x c e=>by
   rcases cs_of x c e with⟨_,q,_⟩|⟨_,q⟩
   ·exact⟨none,q⟩
   ·obtain⟨v,o,ho,hd⟩:=I3.cell x c (hcl1 x c q)
    exact⟨v,o,old _ _ ho,hd⟩
  free:=H3C
  freeC:=λ x c e=>by
   rcases cs_of x c e with⟨_,_,q⟩|⟨_,q⟩
   ·exact I3.hok.fresh (by rw[hC];omega)
   ·exact I3.freeC x c (hcl1 x c q)
  pin:=λ p hp=>nomatch hp
  hok:=I3.hok.kept old
  len:=by show(List.map _ l).length=(List.map _ l).length;rw[List.length_map,List.length_map] }
 have st4:tn 0 h4:=T.keep _ _ _ st3 λ b _ o e=>old b o e
 have loop:∀ s4:Shared,s4={ s3 with heap:=h4 }->
   codeAny (model X.prog X.w) X.A (.compLoop e 0 (.ref it) (.ref D) (compEnvC scope (own++cl) C X.env)) (RR C) s4:=by
  rintro s4 rfl
  refine compLoop_any hn hturn (λ n s'=>∃ i ys σ' H',Inv (cxComp X l scope (own++cl) C fp s3 H3) [] σ' H' s'/\tn i s'.heap/\(∀ b∈fp,H' b=none)/\W i n ys σ' H') ?_ m0
   ⟨0,y0,srcV l σ,H3,I4,st4,λ b hb=>(hfp3 b hb).1,w0⟩
  rintro n s5 ⟨i,ys,σ5,H5,I5,st5,fr5,w5⟩
  rcases turn i n ys σ5 H5 w5 with⟨stop,q⟩|⟨go,step⟩
  ·refine thn (T.done (cxComp X l scope (own++cl) C fp s3 H3) rfl rfl rfl hcalm i [] s5 σ5 H5 _ I5 (fpX fr5) st5 stop) λ r s6 ⟨hr,I6⟩=>?_
   subst hr
   obtain⟨m6,hn6,_⟩:=I6.loc
   have u:Un (frs X.stack) fp H3 H5 s3.heap s6.heap:=I6.base
   refine hRR C s6 H5 q ⟨m6,hn6⟩ (I3.call' (s':=s6) (ch:=fp) I6.os u I6.hok I6.bare λ b hb=>⟨(hfp3 b hb).2.2.2.1,(hfp3 b hb).2.1,(hfp3 b hb).2.2.2.2.1,(hfp3 b hb).2.2.2.2.2⟩) ?_
   have hle:s3.heap.objs.size<=C:=Nat.le_of_eq hC
   have f0:=I3.fpOk (H':=H5) hle I6.free
   exact f0
  ·refine thn (T.item (cxComp X l scope (own++cl) C fp s3 H3) rfl rfl rfl hcalm i [] s5 σ5 H5 _ I5 (fpX fr5) st5 go) λ r s6 ⟨u,hr,h6⟩=>?_
   subst hr
   refine thn h6 λ _ s7 ⟨x,H7,I7,r7,y7,st7,fr7⟩=>?_
   have I7':=I7.pinned (fpX fr7) (T.obj _ _ st7)
   have back:∀ {σ8:St}{H8:Hp}{s8:Shared},Inv (cxComp X l scope (own++cl) C fp s3 H3) ([]++pinsAt fp s7.heap) σ8 H8 s8->Inv (cxComp X l scope (own++cl) C fp s3 H3) [] σ8 H8 s8/\tn (i+1) s8.heap/\∀ b∈fp,H8 b=none:=λ {σ8 H8 s8} I8=>by
    refine⟨I8.unpinned,T.keep _ _ _ st7 λ b hb o e=>(I8.pin (b,o) (List.mem_append_right _ (List.mem_append_right _ (mem_pinsAt hb e)))).1,λ b hb=>?_⟩
    obtain⟨o,e,d⟩:=T.obj _ _ st7 b hb
    exact(I8.pin (b,o) (List.mem_append_right _ (List.mem_append_right _ (mem_pinsAt hb e)))).2.1
   refine thn (hg (own++cl) C fp s3 H3 _ s7 σ5 H7 x u _ I7' r7 (step x H7 y7)) λ _ s8 ⟨σ8,H8,I8,q8⟩=>?_
   refine thn (ht (own++cl) C fp s3 H3 _ s8 σ8 H8 _ I8 q8) λ ok s9 ⟨H9,I9,q9⟩=>?_
   cases ok with
   | false=>
    rw[if_neg (by decide)]at q9 ⊢
    obtain⟨m',hm,w9⟩:=q9
    obtain⟨z1,z2,z3⟩:=back I9
    exact⟨m',hm,i+1,ys,σ8,H9,z1,z2,z3,w9⟩
   | true=>
    rw[if_pos rfl]at q9 ⊢
    refine thn (hb (own++cl) C fp s3 H3 _ s9 i n ys σ8 H9 I9 q9) λ _ s11 ⟨m',ys',σ',H',hm,I11,w10⟩=>?_
    obtain⟨z1,z2,z3⟩:=back I11
    exact⟨m',hm,i+1,ys',σ',_,z1,z2,z3,w10⟩
 exact compStart_any hn hgc has (loop _ rfl) (T.self _ 0 _ _ _ st4 (loop _ rfl))
theorem add_any {Y:Cx}{elt:Expr}{te:TE}(he:PE Y elt te)(hxe:Y.xe=λ _ _=>False){D:Addr}{ys:List V}{pins:List (Addr × Obj)}{s:Shared}{σ:St}{H:Hp}{N:V->Hp->Prop}(I:Inv Y pins σ H s)
  (h:te σ H λ v H6=>H6 D=some (.lst ys)/\ys.length < sizeLine/\N v (upd H6 D (.lst (ys++[v])))) :
  wpAny (model Y.prog Y.w) Y.A (eval elt Y.env >>= λ x=>call (.builtin "list.append") [.ref D,x] >>= λ _=>pure PUnit.unit) (λ _ s'=>∃ v H',Inv Y pins σ H' s'/\N v H') (λ _ _=>False) s:=by
 have h1:=he pins s σ H _ I h
 rw[hxe]at h1
 refine wpAny_bind (thn h1 λ xv s10 ⟨v,H10,I10,r10,q10⟩=>?_)
 obtain⟨hl10,hz,w10⟩:=q10
 have h2:=mt_append _ s10 σ H10 (.ref D) [v] (.ref D) [xv] (λ z H'=>z=.non/\H'=upd H10 D (.lst (ys++[v]))) I10 rfl (.cons r10 .nil) ⟨D,ys,v,rfl,rfl,hl10,hz,rfl,rfl⟩
 rw[hxe]at h2
 refine wpAny_bind (thn h2 λ _ s11 h11=>?_)
 obtain⟨_,H11,I11,_,_,e11⟩:=h11
 subst e11
 exact wpAny_pure ⟨v,_,I11,w10⟩
theorem comp_core {X:Cx}{elt tg iter:Expr}{ifs:List Expr}{scope:Scope}{cl:List (Str × Addr)}{pos:Pos}{l:List (Str × Option Nat)}{g:TG}{tt:TT}{te:TE}
  (hclos:closureFor scope X.env=pure cl) (hcl1:∀ y c,cl.lookup y=some c->X.env.cells.lookup y=some c) (hcl2:∀ x∈scope.names,x.2=.free->∃ c,cl.lookup x.1=some c)
  (hkind:scope.kind=.function) (hcell:∀ y∈scope.names,y.2=.cell->scope.names.lookup y.1=some .cell) (hcalm:X.calm=true) (hsrc:SrcOk X scope l)
  (hg:∀ cl C fp s3 H3,PG (cxComp X l scope cl C fp s3 H3) tg g) (ht:∀ cl C fp s3 H3,PIf (cxComp X l scope cl C fp s3 H3) ifs tt) (he:∀ cl C fp s3 H3,PE (cxComp X l scope cl C fp s3 H3) elt te)
  {pins:List (Addr × Obj)}{σ:St}{H:Hp}{s:Shared}{it:Addr}{fp:List Addr}{tn:Nat->Heap->Prop}{J:It}{Q:Addr->Hp->Prop}{RR:Value->Addr->Result->Shared->Prop}{E:Value->Shared->Prop}
  (I:Inv X pins σ H s) (T:Turn X.prog X.w X.K tg J fp it tn) (st:tn 0 s.heap) (hfp:∀ b∈fp,FpOk X pins H b)
  (hw:CompW l g tt te J σ H Q)
  (hRR:∀ D C (s':Shared) (H':Hp),Q D H'->(∃ m,s'.heap.Ns C m)->Inv X pins σ H' s'->FpOk X pins H' C->RR (.ref D) C (.ok .next) s') :
  wpAny (model X.prog X.w) X.A (newList []) (λ acc s₃=>wpAny (model X.prog X.w) X.A (newFunctionEnv scope X.env.globals cl [] X.env.qual none .none (some X.env)) (λ cenv s₄=>
   codeAny (model X.prog X.w) X.A (.compStart (.ListComp elt [⟨tg,iter,ifs,0⟩] scope pos) 0 (.ref it) acc { cenv with scope:=relabel scope X.env }) (RR acc cenv.locals) s₄) E s₃) E s:=by
 refine wpAny_newList ?_ (by show 0<=sizeLine;exact Nat.zero_le _)
 have I3:Inv X pins σ (upd H s.heap.objs.size (.lst [])) { s with heap:=s.heap.push { cls:=.type "list",data:=.seq ([]:List Value).toArray } }:=
  I.lnew (its:=[]) (ys:=[]) (t':=s.toks) .nil (Nat.zero_le _)
 have hD:H s.heap.objs.size=none:=I.fresh
 obtain⟨W,⟨m0,w0⟩,turn⟩:=hw _ hD
 have fpD:∀ b∈fp,b≠s.heap.objs.size:=λ b hb z=>by
  obtain⟨o,ho,_⟩:=T.obj _ _ st b hb
  exact absurd (Heap.lt_size ho) (by rw[z];exact Nat.lt_irrefl _)
 have hfp3:∀ b∈fp,FpOk X pins (upd H s.heap.objs.size (.lst [])) b:=λ b hb=>⟨by rw[upd_ne (fpD b hb)];exact(hfp b hb).1,(hfp b hb).2⟩
 have st3:tn 0 (s.heap.push { cls:=.type "list",data:=.seq ([]:List Value).toArray }):=T.keep _ _ _ st λ b _ o e=>Heap.get?_push_of_some _ e
 refine comp_any (α:=List V) (B:=λ i m ys σ H5=>te σ H5 λ v H6=>H6 s.heap.objs.size=some (.lst ys)/\ys.length < sizeLine/\∃ m',m' < m/\W (i+1) m' (ys++[v]) σ (upd H6 s.heap.objs.size (.lst (ys++[v])))) (Q:=Q s.heap.objs.size) (p:=iter.pos) (body:=λ acc env=>eval elt env >>= λ x=>call (.builtin "list.append") [acc,x] >>= λ _=>pure PUnit.unit)
  (.inl ⟨_,_,_,_,rfl⟩) (λ _ _ _=>rfl) rfl rfl hcl1 hcl2 hkind hcell hcalm hsrc hg ht (λ cl C fp s3 H3 pins s' i m ys σ H I h=>?_) I3 T st3 hfp3 w0 turn λ C s' H' q=>hRR _ C s' H' q
 refine thn (add_any (N:=λ v H'=>∃ m',m' < m/\W (i+1) m' (ys++[v]) σ H') (he cl C fp s3 H3) rfl I h) λ _ s11 ⟨v,H',I',m',hm,w'⟩=>⟨m',_,_,H',hm,I',w'⟩
def tComp (l:List (Str × Option Nat)) (wi:TI)(g:TG)(tt:TT)(te:TE):TE:=λ σ H Q=>tCompB l wi g tt te σ H λ D H'=>Q (.ref D) H'
section
variable {X:Cx}{elt tg iter:Expr}{ifs:List Expr}{scope:Scope}{pos:Pos}{wi:TI}{g:TG}{tt:TT}{te:TE}
structure CompScope (X:Cx)(scope:Scope)(l:List (Str × Option Nat)):Prop where
 kind:scope.kind=.function
 cell:∀ y∈scope.names,y.2=.cell->scope.names.lookup y.1=some .cell
 names:∀ y∈scope.names,y.2=.local->scope.names.lookup y.1=some .local
 free:∀ y∈scope.names,y.2=.free->X.env.kindOf y.1=some .cell∨X.env.kindOf y.1=some .free
 src:SrcOk X scope l
theorem pe_comp (l:List (Str × Option Nat)) (hsc:CompScope X scope l)(hcalm:X.calm=true)(hi:PI X tg iter wi)
  (hg:∀ cl C fp s3 H3,PG (cxComp X l scope cl C fp s3 H3) tg g) (ht:∀ cl C fp s3 H3,PIf (cxComp X l scope cl C fp s3 H3) ifs tt) (he:∀ cl C fp s3 H3,PE (cxComp X l scope cl C fp s3 H3) elt te)
  (hs:∀ x,foldedSetIterable iter X.env x=pure x:=by intro _;rfl) :
  PE X (.ListComp elt [⟨tg,iter,ifs,0⟩] scope pos) (tComp l wi g tt te):=by
 intro pins s σ H Q I h
 obtain⟨cl,e1,e2,e3⟩:=closureFor_ok (scope:=scope) (env:=X.env) λ x hx hf=>I.ok.has x.1 (hsc.free x hx hf)
 rw[eval_ListComp]
 refine wpAny_comprehension_free (use:=none) rfl hs e1 hsc.kind hsc.names (thn (hi pins s σ H _ I h) λ v s1 h1=>thn h1 λ itv s2 h2=>?_)
 obtain⟨it,fp,tn,J,H2,e,I2,T,st2,f2,hw⟩:=h2
 subst e
 refine comp_core (RR:=λ acc C=>compPost (model X.prog X.w) X.A X.xe none (EP X pins σ Q) acc C) e1 e2 e3 hsc.kind hsc.cell hcalm hsc.src hg ht he I2 T st2 f2 hw ?_
 intro D C s' H' q ⟨m,hn⟩ I' f'
 refine⟨m,hn,λ h' hs'=>?_⟩
 exact⟨.ref D,H',I'.turned (t':=s'.toks) (λ b o hb e=>(hs'.2 b hb).trans e) f'.1 f'.2.1 f'.2.2.2.1 f'.2.2.2.2.1 f'.2.2.2.2.2,rfl,q⟩
theorem ps_setComp {i:Nat}{y:Str}{py spos:Pos}(l:List (Str × Option Nat)) (hsc:CompScope X scope l)(hcalm:X.calm=true)(hN:X.N.Nodup)(hy:X.N[i]? = some y)(hx:X.env.scope.names.lookup y=some .local)(hi:PI X tg iter wi)
  (hg:∀ cl C fp s3 H3,PG (cxComp X l scope cl C fp s3 H3) tg g) (ht:∀ cl C fp s3 H3,PIf (cxComp X l scope cl C fp s3 H3) ifs tt) (he:∀ cl C fp s3 H3,PE (cxComp X l scope cl C fp s3 H3) elt te)
  (hsw:swapsWith (.ListComp elt [⟨tg,iter,ifs,0⟩] scope pos) (some (.Name y py)) spos.line X.env=pure true)
  (hs:∀ x,foldedSetIterable iter X.env x=pure x:=by intro _;rfl) :
  PS X (.Assign [.Name y py] (.ListComp elt [⟨tg,iter,ifs,0⟩] scope pos) spos) (tAsg (tComp l wi g tt te) (gName i)):=by
 intro pins s σ H D0 I h
 obtain⟨cl,e1,e2,e3⟩:=closureFor_ok (scope:=scope) (env:=X.env) λ x hx hf=>I.ok.has x.1 (hsc.free x hx hf)
 rw[exec_Assign_Name_used _ _ _ _ hsw]
 refine wpAny_bind (wpAny_standAt (wpAny_bind ?_))
 show wpAny _ X.A (do let _ <-comprehension (.ListComp elt [⟨tg,iter,ifs,0⟩] scope pos) scope X.env _ (newList []) false (eval iter X.env) (some (assign (.Name y py) X.env))) _ _ s
 refine wpAny_bind (thn (wpAny_comprehension_free (use:=some (assign (.Name y py) X.env)) (Q:=λ _ s'=>SP X pins D0 .next s') rfl hs e1 hsc.kind hsc.names
  (thn (hi pins s σ H _ I h) λ v s1 h1=>thn h1 λ itv s2 h2=>?_)) λ _ s' hq=>wpAny_pure (wpAny_pure hq))
 obtain⟨it,fp,tn,J,H2,e,I2,T,st2,f2,hw⟩:=h2
 subst e
 refine comp_core (RR:=λ acc C=>compPost (model X.prog X.w) X.A X.xe (some (assign (.Name y py) X.env)) (λ _ s'=>SP X pins D0 .next s') acc C) e1 e2 e3 hsc.kind hsc.cell hcalm hsc.src hg ht he I2 T st2 f2 hw ?_
 intro D C s' H' q ⟨m,hn⟩ I' f'
 show wpAny _ X.A (assign (.Name y py) X.env (.ref D)) _ _ _
 refine wpAny_assign_Name (store_ok2 (v:=.ref D) I' hN hy (.inl hx) rfl (λ s'' I'' hk=>?_) (.inr hx))
 obtain⟨a,hsb,ha⟩:=hk
 have hCa:C≠a:=by
  rintro rfl
  rcases ha with z|z
  ·exact f'.2.1 z
  ·exact f'.2.2.2.2.1 y _ z rfl
 refine⟨m,hn.sameBut hsb hCa,λ h' hs'=>?_⟩
 exact⟨_,H',I''.turned (t':=s''.toks) (λ b o hb e=>(hs'.2 b hb).trans e) f'.1 f'.2.1 f'.2.2.2.1 f'.2.2.2.2.1 f'.2.2.2.2.2,q⟩
end
end L2
namespace L2
open PySem PySem.Spec PyProof.Rows
def Fit (n:Nat)(i:Int):Prop:=i.natAbs < 2 ^ n
theorem Fit.mono {n m:Nat}{i:Int}(h:Fit n i)(k:n<=m):Fit m i:=Nat.lt_of_lt_of_le h (Nat.pow_le_pow_right (by decide) k)
theorem Fit.mul {n m:Nat}{i j:Int}(h:Fit n i)(k:Fit m j):Fit (n+m) (i * j):=by
 unfold Fit at *
 rw[Int.natAbs_mul,Nat.pow_add]
 exact Nat.mul_lt_mul'' h k
theorem Fit.add {n:Nat}{i j:Int}(h:Fit n i)(k:Fit n j):Fit (n+1) (i+j):=by
 unfold Fit at *
 have:=Int.natAbs_add_le i j
 rw[Nat.pow_succ]
 omega
theorem Fit.le {n:Nat}{i j:Int}(h:Fit n i)(k:j.natAbs<=i.natAbs):Fit n j:=Nat.lt_of_le_of_lt k h
theorem Fit.bits {n:Nat}{i:Int}(h:Fit n i):Builtin.Int.intBits i<=n:=by
 unfold Builtin.Int.intBits
 split
 ·exact Nat.zero_le _
 ·rename_i hz
  have h0:i.natAbs≠0:=by
   intro z
   apply hz
   have:i=0:=by omega
   simp[this]
  have:=(Nat.log2_lt h0).mpr h
  omega
theorem Fit.log {n:Nat}{i:Int}(h:Fit n i)(hn:0 < n):i.natAbs.log2 < n:=by
 by_cases h0:i.natAbs=0
 ·rw[h0]
  show Nat.log2 0 < n
  have:Nat.log2 0=0:=by decide
  rw[this];exact hn
 ·exact(Nat.log2_lt h0).mpr h
theorem Fit.mulOk {i j:Int}(h:Fit 60000000 i)(k:Fit 60000000 j):IntMulOk i j:=by
 have h1:=h.bits
 have h2:=k.bits
 unfold IntMulOk
 have e:Builtin.Int.intTooBig (((Builtin.Int.intBits i+Builtin.Int.intBits j:Nat)):Int)=false:=by
  unfold Builtin.Int.intTooBig
  refine decide_eq_false ?_
  show ¬ ((((Builtin.Int.intBits i+Builtin.Int.intBits j:Nat)):Int) > (((2 ^ 27:Nat)):Int))
  have:(2 ^ 27:Nat)=134217728:=by decide
  omega
 simp[e]
 try (intro _ _;exact_mod_cast e)
theorem fit_of_lt {i:Int}{n:Nat}(h1:-(2 ^ n) < i) (h2:i < 2 ^ n):Fit n i:=by
 unfold Fit
 have e:((2 ^ n:Nat):Int)=(2:Int) ^ n:=by
  rw[Int.natCast_pow];rfl
 have:(i.natAbs:Int) < ((2 ^ n:Nat):Int):=by rw[e];omega
 exact_mod_cast this
section
variable {X:Cx}
theorem op_mulG:OpR X (binaryOp .Mult) (rI (λ i j=>Fit 60000000 i/\Fit 60000000 j) λ i j=>.int (i * j)):=opI λ _ _ _ _ _ _ _ hc q=>mul_int q (hc.1.mulOk hc.2)
theorem op_fdivG:OpR X (binaryOp .FloorDiv) (rI (λ _ j=>j≠0/\Fit 9000 j) λ i j=>.int (i.fdiv j)):=opI λ _ _ _ _ _ _ _ hc q=>floordiv_int hc.1 q (.inl (PyProof.noPylong_of_log2 (hc.2.log (by decide))))
theorem call_divmodP:CallR X (.builtin "divmod") (λ xs H Q=>∃ i j,xs=[.int i,.int j]/\(0 < j/\Fit 9000 j)/\∀ p,H p=none->Q (.ref p) (upd H p (.tup [.int (i / j),.int (i % j)]))):=by
 intro pins s σ H xs us Q I r h
 obtain⟨i,j,rfl,⟨h1,h2⟩,q⟩:=h
 obtain⟨u,w',rfl,⟨t,rfl⟩,⟨t',rfl⟩⟩:=vals2 r
 refine divmod_int (by omega) ?_ (.inl (PyProof.noPylong_of_log2 (h2.log (by decide))))
 rw[Int.fdiv_eq_ediv_of_nonneg i (by omega),Int.fmod_eq_emod_of_nonneg i (by omega)]
 have hn:H s.heap.objs.size=none:=I.hok.fresh (Nat.le_refl _)
 refine⟨.ref s.heap.objs.size,_,?_,rfl,q _ hn⟩
 refine I.laid (λ b o e=>Heap.get?_push_of_some _ e) (Nat.le_refl _) ⟨by simp only[List.length_cons,List.length_nil];rw[sizeLine_eq];decide,[.int (i / j) s.toks,.int (i % j) (s.toks+1)],.cons ⟨_,rfl⟩ (.cons ⟨_,rfl⟩ .nil),?_⟩
 exact⟨_,Heap.get?_push_size s.heap rfl,rfl,0,rfl⟩
theorem bools_of:∀ {bs:List Bool}{us:List Value},Vals (bs.map V.bl) us->∀ (i:Nat)(v:Value),us[i]? = some v->∃ b:Bool,bs[i]? = some b/\v=Value.bool b
 | [],us,r,i,v,e=>by
  cases r
  simp at e
 | b :: bs,us,r,i,v,e=>by
  cases r with
  | cons r1 r2=>
   cases i with
   | zero=>
    simp at e
    subst e
    exact⟨b,rfl,r1⟩
   | succ i=>
    obtain⟨b',e1,e2⟩:=bools_of r2 i v (by simpa using e)
    exact⟨b',by simpa using e1,e2⟩
theorem range_allB (bs:List Bool):((List.range bs.length).all λ i=>(bs[i]?).getD true)=bs.all id:=by
 rw[Bool.eq_iff_iff,List.all_eq_true,List.all_eq_true]
 constructor
 ·intro h b hb
  obtain⟨i,hi,e⟩:=List.getElem_of_mem hb
  have:=h i (List.mem_range.mpr hi)
  simp only[List.getElem?_eq_getElem hi,Option.getD_some,e]at this
  exact this
 ·intro h i hi
  have hi':=List.mem_range.mp hi
  simp only[List.getElem?_eq_getElem hi',Option.getD_some]
  exact h _ (List.getElem_mem hi')
theorem call_allL (hc:X.calm=true):CallR X (.builtin "all") (λ xs H Q=>∃ (a:Addr) (bs:List Bool),xs=[.ref a]/\SqL X.K H a (bs.map V.bl)/\Q (.bl (bs.all id)) H):=by
 intro pins s σ H xs us Q I r h
 obtain⟨a,bs,rfl,ha,q⟩:=h
 obtain⟨u,rfl,ru⟩:=vals1 r
 cases ru
 obtain⟨its,rv,p,hz⟩:=I.list ha
 have hl:=p.isList
 have hlt:a < s.heap.objs.size:=by obtain⟨_,e,_⟩:=hl;exact Heap.lt_size e
 refine call_all_walk (wpAny_pyIter_list hl ?_)
 refine⟨s.heap.objs.size,[s.heap.objs.size,a],[s.heap.objs.size],its.toArray.size,_,_,λ i=>(bs[i]?).getD true,rfl,Walks.list (A:=X.A.in1) (I.ok.hd hc) _ a (Nat.ne_of_lt hlt) its.toArray,
  ⟨⟨_,Heap.get?_push_size _ rfl,rfl,rfl⟩,hl.push _⟩,λ i v s' Q' E' hP hQ=>?_,λ h' tk hk=>?_⟩
 ·obtain⟨b,e,rfl⟩:=bools_of rv i v (by simpa using hP)
  simp only[e,Option.getD_some]at hQ
  exact wpAny_truthy_bool hQ
 ·have e:((List.range its.toArray.size).all λ i=>(bs[i]?).getD true)=bs.all id:=by
   rw[List.size_toArray,<-rv.length,List.length_map];exact range_allB bs
  rw[e]
  refine⟨.bl _,H,I.kept (t':=tk) λ b x e=>hk b x (λ hm=>?_) (Heap.get?_push_of_some _ e),rfl,q⟩
  rw[List.mem_singleton.mp hm]at e
  exact Nat.lt_irrefl _ (Heap.lt_size e)
end
inductive Dt where
 | non|bl (b:Bool)|int (i:Int)|str (x:Str)|tup (l:List Dt)|lst (l:List Dt)
mutual
def Dt.dep:Dt->Nat
 | .tup l=>depL l+1
 | .lst l=>depL l+1
 | _=>0
def depL:List Dt->Nat
 | []=>0
 | d :: r=>max d.dep (depL r)
end
mutual
def eqD:Dt->Dt->Bool
 | .non,.non=>true
 | .bl a,.bl b=>a == b
 | .bl a,.int b=>(if a then 1 else 0) == b
 | .int a,.bl b=>a == (if b then 1 else 0)
 | .int a,.int b=>a == b
 | .str a,.str b=>a == b
 | .tup a,.tup b=>eqDL a b
 | .lst a,.lst b=>eqDL a b
 | _,_=>false
def eqDL:List Dt->List Dt->Bool
 | [],[]=>true
 | a :: r,b :: q=>eqD a b && eqDL r q
 | _,_=>false
end
mutual
def Rep (K:PySem.W.Frag)(N:Addr->Prop)(H:Hp):Dt->V->Prop
 | .non,v=>v=.non
 | .bl b,v=>v=.bl b
 | .int i,v=>v=.int i
 | .str x,v=>v=.str x
 | .tup l,v=>∃ a xs,v=.ref a/\¬ N a/\SqT K H a xs/\RepL K N H l xs
 | .lst l,v=>∃ a xs,v=.ref a/\¬ N a/\SqL K H a xs/\RepL K N H l xs
def RepL (K:PySem.W.Frag)(N:Addr->Prop)(H:Hp):List Dt->List V->Prop
 | [],xs=>xs=[]
 | d :: r,xs=>∃ x ys,xs=x :: ys/\Rep K N H d x/\RepL K N H r ys
end
def SameX (N:Addr->Prop)(H H':Hp):Prop:=∀ b o,H b=some o->¬ N b->H' b=some o
theorem SameX.sqT {K:PySem.W.Frag}{N:Addr->Prop}{H H':Hp}{a:Addr}{xs:List V}(s:SameX N H H')(n:¬ N a)(h:SqT K H a xs):SqT K H' a xs:=by
 rcases h with(h|⟨o,h⟩)|h
 ·exact .inl (.inl (s _ _ h n))
 ·exact .inl (.inr ⟨o,s _ _ h n⟩)
 ·exact .inr h
theorem SameX.sqL {K:PySem.W.Frag}{N:Addr->Prop}{H H':Hp}{a:Addr}{xs:List V}(s:SameX N H H')(n:¬ N a)(h:SqL K H a xs):SqL K H' a xs:=by
 rcases h with(h|⟨o,h⟩)|h
 ·exact .inl (.inl (s _ _ h n))
 ·exact .inl (.inr ⟨o,s _ _ h n⟩)
 ·exact .inr h
mutual
theorem Rep.same {K:PySem.W.Frag}{N:Addr->Prop}{H H':Hp}(s:SameX N H H'):∀ {d:Dt}{v:V},Rep K N H d v->Rep K N H' d v
 | .non,_,h=>h
 | .bl _,_,h=>h
 | .int _,_,h=>h
 | .str _,_,h=>h
 | .tup l,v,h=>by
  unfold Rep at h ⊢
  obtain⟨a,xs,e,n,q,r⟩:=h
  exact⟨a,xs,e,n,s.sqT n q,RepL.same s r⟩
 | .lst l,v,h=>by
  unfold Rep at h ⊢
  obtain⟨a,xs,e,n,q,r⟩:=h
  exact⟨a,xs,e,n,s.sqL n q,RepL.same s r⟩
theorem RepL.same {K:PySem.W.Frag}{N:Addr->Prop}{H H':Hp}(s:SameX N H H'):∀ {l:List Dt}{xs:List V},RepL K N H l xs->RepL K N H' l xs
 | [],_,h=>h
 | d :: r,xs,h=>by
  unfold RepL at h ⊢
  obtain⟨x,ys,e,h1,h2⟩:=h
  exact⟨x,ys,e,Rep.same s h1,RepL.same s h2⟩
end
theorem RepL.length {K:PySem.W.Frag}{N:Addr->Prop}{H:Hp}:∀ {l:List Dt}{xs:List V},RepL K N H l xs->l.length=xs.length
 | [],xs,h=>by unfold RepL at h;rw[h];rfl
 | d :: r,xs,h=>by
  unfold RepL at h
  obtain⟨x,ys,rfl,_,h2⟩:=h
  rw[List.length_cons,List.length_cons,RepL.length h2]
theorem RepL.get {K:PySem.W.Frag}{N:Addr->Prop}{H:Hp}:∀ {l:List Dt}{xs:List V}{i:Nat}{d:Dt},RepL K N H l xs->l[i]? = some d->∃ x,xs[i]? = some x/\Rep K N H d x
 | [],xs,i,d,h,e=>by simp at e
 | d0 :: r,xs,0,d,h,e=>by
  unfold RepL at h
  obtain⟨x,ys,rfl,h1,_⟩:=h
  simp at e
  subst e
  exact⟨x,rfl,h1⟩
 | d0 :: r,xs,i+1,d,h,e=>by
  unfold RepL at h
  obtain⟨x,ys,rfl,_,h2⟩:=h
  obtain⟨y,e1,e2⟩:=RepL.get (i:=i) h2 (by simpa using e)
  exact⟨y,by simpa using e1,e2⟩
theorem eqDL_len:∀ {l q:List Dt},l.length≠q.length->eqDL l q=false
 | [],[],h=>absurd rfl h
 | [],_ :: _,_=>by simp[eqDL]
 | _ :: _,[],_=>by simp[eqDL]
 | a :: r,b :: q,h=>by
  simp only[eqDL]
  rw[eqDL_len (l:=r) (q:=q) (by simpa using h),Bool.and_false]
theorem eqDL_range:∀ {l q:List Dt},l.length=q.length->eqDL l q=(List.range l.length).all λ i=>match l[i]?,q[i]? with|some a,some b=>eqD a b|_,_=>true
 | [],[],_=>by simp[eqDL]
 | a :: r,b :: q,h=>by
  simp only[eqDL]
  rw[eqDL_range (l:=r) (q:=q) (by simpa using h),List.length_cons,List.range_succ_eq_map,List.all_cons,List.all_map]
  simp[Function.comp_def]
theorem depL_get:∀ {l:List Dt}{i:Nat}{d:Dt},l[i]? = some d->d.dep<=depL l
 | [],i,d,e=>by simp at e
 | a :: r,0,d,e=>by simp at e;subst e;simp only[depL];exact Nat.le_max_left _ _
 | a :: r,i+1,d,e=>by
  have:=depL_get (l:=r) (i:=i) (d:=d) (by simpa using e)
  simp only[depL]
  exact Nat.le_trans this (Nat.le_max_right _ _)
section
variable {X:Cx}{pins:List (Addr × Obj)}{σ:St}{H:Hp}{s:Shared}{N N':Addr->Prop}
theorem not_both (I:Inv X pins σ H s){a:Addr}{xs ys:List V}(h:SqL X.K H a xs)(k:SqT X.K H a ys):False:=by
 obtain⟨its,_,p,_⟩:=I.list h
 obtain⟨its2,_,q,_⟩:=I.tuple k
 obtain⟨o,e,c,_⟩:=p.isList
 obtain⟨o2,e2,c2,_⟩:=q
 rw[e]at e2
 cases e2
 rw[c]at c2
 injection c2 with z
 exact absurd z (by decide)
mutual
theorem Rep.inj (I:Inv X pins σ H s):∀ {d e:Dt}{v:V},Rep X.K N H d v->Rep X.K N' H e v->d=e
 | .non,.non,_,_,_=>rfl
 | .non,.bl _,_,h,k=>by unfold Rep at h k;rw[h]at k;cases k
 | .non,.int _,_,h,k=>by unfold Rep at h k;rw[h]at k;cases k
 | .non,.str _,_,h,k=>by unfold Rep at h k;rw[h]at k;cases k
 | .non,.tup _,_,h,k=>by unfold Rep at h k;obtain⟨_,_,e,_⟩:=k;rw[h]at e;cases e
 | .non,.lst _,_,h,k=>by unfold Rep at h k;obtain⟨_,_,e,_⟩:=k;rw[h]at e;cases e
 | .bl _,.non,_,h,k=>by unfold Rep at h k;rw[h]at k;cases k
 | .bl x,.bl y,_,h,k=>by unfold Rep at h k;rw[h]at k;cases k;rfl
 | .bl _,.int _,_,h,k=>by unfold Rep at h k;rw[h]at k;cases k
 | .bl _,.str _,_,h,k=>by unfold Rep at h k;rw[h]at k;cases k
 | .bl _,.tup _,_,h,k=>by unfold Rep at h k;obtain⟨_,_,e,_⟩:=k;rw[h]at e;cases e
 | .bl _,.lst _,_,h,k=>by unfold Rep at h k;obtain⟨_,_,e,_⟩:=k;rw[h]at e;cases e
 | .int _,.non,_,h,k=>by unfold Rep at h k;rw[h]at k;cases k
 | .int _,.bl _,_,h,k=>by unfold Rep at h k;rw[h]at k;cases k
 | .int x,.int y,_,h,k=>by unfold Rep at h k;rw[h]at k;cases k;rfl
 | .int _,.str _,_,h,k=>by unfold Rep at h k;rw[h]at k;cases k
 | .int _,.tup _,_,h,k=>by unfold Rep at h k;obtain⟨_,_,e,_⟩:=k;rw[h]at e;cases e
 | .int _,.lst _,_,h,k=>by unfold Rep at h k;obtain⟨_,_,e,_⟩:=k;rw[h]at e;cases e
 | .str _,.non,_,h,k=>by unfold Rep at h k;rw[h]at k;cases k
 | .str _,.bl _,_,h,k=>by unfold Rep at h k;rw[h]at k;cases k
 | .str _,.int _,_,h,k=>by unfold Rep at h k;rw[h]at k;cases k
 | .str x,.str y,_,h,k=>by unfold Rep at h k;rw[h]at k;cases k;rfl
 | .str _,.tup _,_,h,k=>by unfold Rep at h k;obtain⟨_,_,e,_⟩:=k;rw[h]at e;cases e
 | .str _,.lst _,_,h,k=>by unfold Rep at h k;obtain⟨_,_,e,_⟩:=k;rw[h]at e;cases e
 | .tup _,.non,_,h,k=>by unfold Rep at h k;obtain⟨_,_,e,_⟩:=h;rw[k]at e;cases e
 | .tup _,.bl _,_,h,k=>by unfold Rep at h k;obtain⟨_,_,e,_⟩:=h;rw[k]at e;cases e
 | .tup _,.int _,_,h,k=>by unfold Rep at h k;obtain⟨_,_,e,_⟩:=h;rw[k]at e;cases e
 | .tup _,.str _,_,h,k=>by unfold Rep at h k;obtain⟨_,_,e,_⟩:=h;rw[k]at e;cases e
 | .tup l,.tup q,_,h,k=>by
  unfold Rep at h k
  obtain⟨a,xs,rfl,_,h1,h2⟩:=h
  obtain⟨b,ys,e,_,k1,k2⟩:=k
  cases e
  have:=I.tuple_inj h1 k1
  subst this
  rw[RepL.inj I h2 k2]
 | .tup _,.lst _,_,h,k=>by unfold Rep at h k;obtain⟨_,_,rfl,_,h1,_⟩:=h;obtain⟨_,_,e,_,k1,_⟩:=k;cases e;exact(not_both I k1 h1).elim
 | .lst _,.non,_,h,k=>by unfold Rep at h k;obtain⟨_,_,e,_⟩:=h;rw[k]at e;cases e
 | .lst _,.bl _,_,h,k=>by unfold Rep at h k;obtain⟨_,_,e,_⟩:=h;rw[k]at e;cases e
 | .lst _,.int _,_,h,k=>by unfold Rep at h k;obtain⟨_,_,e,_⟩:=h;rw[k]at e;cases e
 | .lst _,.str _,_,h,k=>by unfold Rep at h k;obtain⟨_,_,e,_⟩:=h;rw[k]at e;cases e
 | .lst _,.tup _,_,h,k=>by unfold Rep at h k;obtain⟨_,_,rfl,_,h1,_⟩:=h;obtain⟨_,_,e,_,k1,_⟩:=k;cases e;exact(not_both I h1 k1).elim
 | .lst l,.lst q,_,h,k=>by
  unfold Rep at h k
  obtain⟨a,xs,rfl,_,h1,h2⟩:=h
  obtain⟨b,ys,e,_,k1,k2⟩:=k
  cases e
  have:=I.list_inj h1 k1
  subst this
  rw[RepL.inj I h2 k2]
theorem RepL.inj (I:Inv X pins σ H s):∀ {l q:List Dt}{xs:List V},RepL X.K N H l xs->RepL X.K N' H q xs->l=q
 | [],[],_,_,_=>rfl
 | [],_ :: _,_,h,k=>by unfold RepL at h k;obtain⟨_,_,e,_⟩:=k;rw[h]at e;cases e
 | _ :: _,[],_,h,k=>by unfold RepL at h k;obtain⟨_,_,e,_⟩:=h;rw[k]at e;cases e
 | a :: r,b :: q,xs,h,k=>by
  unfold RepL at h k
  obtain⟨x,ys,rfl,h1,h2⟩:=h
  obtain⟨y,zs,e,k1,k2⟩:=k
  cases e
  rw[Rep.inj I h1 k1,RepL.inj I h2 k2]
end
mutual
theorem eqD_self:∀ d:Dt,eqD d d=true
 | .non=>by simp[eqD]
 | .bl _=>by simp[eqD]
 | .int _=>by simp[eqD]
 | .str _=>by simp[eqD]
 | .tup l=>by simp only[eqD];exact eqDL_self l
 | .lst l=>by simp only[eqD];exact eqDL_self l
theorem eqDL_self:∀ l:List Dt,eqDL l l=true
 | []=>by simp[eqDL]
 | d :: r=>by simp only[eqDL,eqD_self d,eqDL_self r,Bool.and_self]
end
theorem items_eq {A:Around}{k:Nat}(ih:∀ (d e:Dt){v w:V}{u z:Value},d.dep<=k->Rep X.K N H d v->Rep X.K N' H e w->RelV v u->RelV w z->SeqAt.EqAt A s u z (eqD d e))
  {l q:List Dt}{xs ys:List V}{its its2:List Value}(hd:depL l<=k) (h:RepL X.K N H l xs) (h':RepL X.K N' H q ys) (r:Vals xs its) (r':Vals ys its2) :
  ∀ j (h1:j < its.toArray.size) (h2:j < its2.toArray.size),SeqAt.EqAt A s its.toArray[j] its2.toArray[j] (match l[j]?,q[j]? with|some a,some b=>eqD a b|_,_=>true):=by
 intro j h1 h2
 have n1:l.length=its.length:=h.length.trans r.length
 have n2:q.length=its2.length:=h'.length.trans r'.length
 have j1:j < l.length:=by rw[n1];simpa using h1
 have j2:j < q.length:=by rw[n2];simpa using h2
 obtain⟨x,ex,rx⟩:=h.get (List.getElem?_eq_getElem j1)
 obtain⟨y,ey,ry⟩:=h'.get (List.getElem?_eq_getElem j2)
 obtain⟨u,eu,ru⟩:=r.get ex
 obtain⟨z,ez,rz⟩:=r'.get ey
 rw[List.getElem?_eq_getElem j1,List.getElem?_eq_getElem j2]
 have e1:its.toArray[j]=u:=by
  have:=List.getElem?_eq_some_iff.mp eu
  obtain⟨_,e⟩:=this
  simpa using e
 have e2:its2.toArray[j]=z:=by
  have:=List.getElem?_eq_some_iff.mp ez
  obtain⟨_,e⟩:=this
  simpa using e
 rw[e1,e2]
 exact ih _ _ (Nat.le_trans (depL_get (List.getElem?_eq_getElem j1)) hd) rx ry ru rz
theorem eq_tup_val {l q:List Dt}{xs ys:List V}{its its2:List Value}(h:RepL X.K N H l xs)(h':RepL X.K N' H q ys)(r:Vals xs its)(r':Vals ys its2) :
  ((List.range (min its.toArray.size its2.toArray.size)).all (λ j=>match l[j]?,q[j]? with|some a,some b=>eqD a b|_,_=>true) && its.toArray.size == its2.toArray.size)=eqDL l q:=by
 have n1:l.length=its.toArray.size:=by simpa using h.length.trans r.length
 have n2:q.length=its2.toArray.size:=by simpa using h'.length.trans r'.length
 rw[<-n1,<-n2]
 by_cases hn:l.length=q.length
 ·rw[eqDL_range hn,hn,Nat.min_self]
  simp
 ·rw[eqDL_len hn]
  have:(l.length == q.length)=false:=by simpa using hn
  rw[this,Bool.and_false]
theorem eqAt_D (I:Inv X pins σ H s):∀ (k:Nat) (A:Around),A.units+k < cLine->∀ (d e:Dt) {v w:V}{u z:Value},d.dep<=k->Rep X.K N H d v->Rep X.K N' H e w->RelV v u->RelV w z->SeqAt.EqAt A s u z (eqD d e):=by
 intro k
 induction k with
 | zero=>
  intro A hA d e v w u z hd h h' r r'
  have hu:A.units < cLine:=by omega
  cases d with
  | tup l=>exact absurd hd (by simp[Dt.dep])
  | lst l=>exact absurd hd (by simp[Dt.dep])
  | non=>
   unfold Rep at h
   subst h
   cases e with
   | non=>
    unfold Rep at h'
    subst h'
    have:=eqAt_V (A:=A) (s:=s) r r' rfl rfl
    simpa[eqD,eqV]using this
   | bl y=>
    unfold Rep at h'
    subst h'
    have:=eqAt_V (A:=A) (s:=s) r r' rfl rfl
    simpa[eqD,eqV]using this
   | int y=>
    unfold Rep at h'
    subst h'
    have:=eqAt_V (A:=A) (s:=s) r r' rfl rfl
    simpa[eqD,eqV]using this
   | str y=>
    unfold Rep at h'
    subst h'
    have:=eqAt_V (A:=A) (s:=s) r r' rfl rfl
    simpa[eqD,eqV]using this
   | tup y=>
    unfold Rep at h'
    obtain⟨a,xs,rfl,_,q1,_⟩:=h'
    cases r'
    obtain⟨its,_,p,_⟩:=I.tuple q1
    cases r
    simp only[eqD]
    exact SeqAt.EqAt.none_tuple p hu
   | lst y=>
    unfold Rep at h'
    obtain⟨a,xs,rfl,_,q1,_⟩:=h'
    cases r'
    obtain⟨its,_,p,_⟩:=I.list q1
    cases r
    simp only[eqD]
    exact SeqAt.EqAt.none_list p.isList hu
  | bl x=>
   unfold Rep at h
   subst h
   cases e with
   | non=>
    unfold Rep at h'
    subst h'
    have:=eqAt_V (A:=A) (s:=s) r r' rfl rfl
    simpa[eqD,eqV]using this
   | bl y=>
    unfold Rep at h'
    subst h'
    have:=eqAt_V (A:=A) (s:=s) r r' rfl rfl
    simpa[eqD,eqV]using this
   | int y=>
    unfold Rep at h'
    subst h'
    have:=eqAt_V (A:=A) (s:=s) r r' rfl rfl
    simpa[eqD,eqV]using this
   | str y=>
    unfold Rep at h'
    subst h'
    have:=eqAt_V (A:=A) (s:=s) r r' rfl rfl
    simpa[eqD,eqV]using this
   | tup y=>
    unfold Rep at h'
    obtain⟨a,xs,rfl,_,q1,_⟩:=h'
    cases r'
    obtain⟨its,_,p,_⟩:=I.tuple q1
    cases r
    simp only[eqD]
    exact SeqAt.EqAt.bool_tuple x p hu
   | lst y=>
    unfold Rep at h'
    obtain⟨a,xs,rfl,_,q1,_⟩:=h'
    cases r'
    obtain⟨its,_,p,_⟩:=I.list q1
    cases r
    simp only[eqD]
    exact SeqAt.EqAt.bool_list x p.isList hu
  | int x=>
   unfold Rep at h
   subst h
   cases e with
   | non=>
    unfold Rep at h'
    subst h'
    have:=eqAt_V (A:=A) (s:=s) r r' rfl rfl
    simpa[eqD,eqV]using this
   | bl y=>
    unfold Rep at h'
    subst h'
    have:=eqAt_V (A:=A) (s:=s) r r' rfl rfl
    simpa[eqD,eqV]using this
   | int y=>
    unfold Rep at h'
    subst h'
    have:=eqAt_V (A:=A) (s:=s) r r' rfl rfl
    simpa[eqD,eqV]using this
   | str y=>
    unfold Rep at h'
    subst h'
    have:=eqAt_V (A:=A) (s:=s) r r' rfl rfl
    simpa[eqD,eqV]using this
   | tup y=>
    unfold Rep at h'
    obtain⟨a,xs,rfl,_,q1,_⟩:=h'
    cases r'
    obtain⟨its,_,p,_⟩:=I.tuple q1
    obtain⟨t,rfl⟩:=r
    simp only[eqD]
    exact SeqAt.EqAt.int_tuple x t p hu
   | lst y=>
    unfold Rep at h'
    obtain⟨a,xs,rfl,_,q1,_⟩:=h'
    cases r'
    obtain⟨its,_,p,_⟩:=I.list q1
    obtain⟨t,rfl⟩:=r
    simp only[eqD]
    exact SeqAt.EqAt.int_list x t p.isList hu
  | str x=>
   unfold Rep at h
   subst h
   cases e with
   | non=>
    unfold Rep at h'
    subst h'
    have:=eqAt_V (A:=A) (s:=s) r r' rfl rfl
    simpa[eqD,eqV]using this
   | bl y=>
    unfold Rep at h'
    subst h'
    have:=eqAt_V (A:=A) (s:=s) r r' rfl rfl
    simpa[eqD,eqV]using this
   | int y=>
    unfold Rep at h'
    subst h'
    have:=eqAt_V (A:=A) (s:=s) r r' rfl rfl
    simpa[eqD,eqV]using this
   | str y=>
    unfold Rep at h'
    subst h'
    have:=eqAt_V (A:=A) (s:=s) r r' rfl rfl
    simpa[eqD,eqV]using this
   | tup y=>
    unfold Rep at h'
    obtain⟨a,xs,rfl,_,q1,_⟩:=h'
    cases r'
    obtain⟨its,_,p,_⟩:=I.tuple q1
    obtain⟨t,rfl⟩:=r
    simp only[eqD]
    exact SeqAt.EqAt.str_tuple x t p hu
   | lst y=>
    unfold Rep at h'
    obtain⟨a,xs,rfl,_,q1,_⟩:=h'
    cases r'
    obtain⟨its,_,p,_⟩:=I.list q1
    obtain⟨t,rfl⟩:=r
    simp only[eqD]
    exact SeqAt.EqAt.str_list x t p.isList hu
 | succ k ih=>
  intro A hA d e v w u z hd h h' r r'
  have hu:A.units < cLine:=by omega
  have hA':A.in1.units+k < cLine:=by have:A.in1.units=A.units+1:=rfl;omega
  cases d with
  | non=>
   unfold Rep at h
   subst h
   cases e with
   | non=>
    unfold Rep at h'
    subst h'
    have:=eqAt_V (A:=A) (s:=s) r r' rfl rfl
    simpa[eqD,eqV]using this
   | bl y=>
    unfold Rep at h'
    subst h'
    have:=eqAt_V (A:=A) (s:=s) r r' rfl rfl
    simpa[eqD,eqV]using this
   | int y=>
    unfold Rep at h'
    subst h'
    have:=eqAt_V (A:=A) (s:=s) r r' rfl rfl
    simpa[eqD,eqV]using this
   | str y=>
    unfold Rep at h'
    subst h'
    have:=eqAt_V (A:=A) (s:=s) r r' rfl rfl
    simpa[eqD,eqV]using this
   | tup y=>
    unfold Rep at h'
    obtain⟨a,xs,rfl,_,q1,_⟩:=h'
    cases r'
    obtain⟨its,_,p,_⟩:=I.tuple q1
    cases r
    simp only[eqD]
    exact SeqAt.EqAt.none_tuple p hu
   | lst y=>
    unfold Rep at h'
    obtain⟨a,xs,rfl,_,q1,_⟩:=h'
    cases r'
    obtain⟨its,_,p,_⟩:=I.list q1
    cases r
    simp only[eqD]
    exact SeqAt.EqAt.none_list p.isList hu
  | bl x=>
   unfold Rep at h
   subst h
   cases e with
   | non=>
    unfold Rep at h'
    subst h'
    have:=eqAt_V (A:=A) (s:=s) r r' rfl rfl
    simpa[eqD,eqV]using this
   | bl y=>
    unfold Rep at h'
    subst h'
    have:=eqAt_V (A:=A) (s:=s) r r' rfl rfl
    simpa[eqD,eqV]using this
   | int y=>
    unfold Rep at h'
    subst h'
    have:=eqAt_V (A:=A) (s:=s) r r' rfl rfl
    simpa[eqD,eqV]using this
   | str y=>
    unfold Rep at h'
    subst h'
    have:=eqAt_V (A:=A) (s:=s) r r' rfl rfl
    simpa[eqD,eqV]using this
   | tup y=>
    unfold Rep at h'
    obtain⟨a,xs,rfl,_,q1,_⟩:=h'
    cases r'
    obtain⟨its,_,p,_⟩:=I.tuple q1
    cases r
    simp only[eqD]
    exact SeqAt.EqAt.bool_tuple x p hu
   | lst y=>
    unfold Rep at h'
    obtain⟨a,xs,rfl,_,q1,_⟩:=h'
    cases r'
    obtain⟨its,_,p,_⟩:=I.list q1
    cases r
    simp only[eqD]
    exact SeqAt.EqAt.bool_list x p.isList hu
  | int x=>
   unfold Rep at h
   subst h
   cases e with
   | non=>
    unfold Rep at h'
    subst h'
    have:=eqAt_V (A:=A) (s:=s) r r' rfl rfl
    simpa[eqD,eqV]using this
   | bl y=>
    unfold Rep at h'
    subst h'
    have:=eqAt_V (A:=A) (s:=s) r r' rfl rfl
    simpa[eqD,eqV]using this
   | int y=>
    unfold Rep at h'
    subst h'
    have:=eqAt_V (A:=A) (s:=s) r r' rfl rfl
    simpa[eqD,eqV]using this
   | str y=>
    unfold Rep at h'
    subst h'
    have:=eqAt_V (A:=A) (s:=s) r r' rfl rfl
    simpa[eqD,eqV]using this
   | tup y=>
    unfold Rep at h'
    obtain⟨a,xs,rfl,_,q1,_⟩:=h'
    cases r'
    obtain⟨its,_,p,_⟩:=I.tuple q1
    obtain⟨t,rfl⟩:=r
    simp only[eqD]
    exact SeqAt.EqAt.int_tuple x t p hu
   | lst y=>
    unfold Rep at h'
    obtain⟨a,xs,rfl,_,q1,_⟩:=h'
    cases r'
    obtain⟨its,_,p,_⟩:=I.list q1
    obtain⟨t,rfl⟩:=r
    simp only[eqD]
    exact SeqAt.EqAt.int_list x t p.isList hu
  | str x=>
   unfold Rep at h
   subst h
   cases e with
   | non=>
    unfold Rep at h'
    subst h'
    have:=eqAt_V (A:=A) (s:=s) r r' rfl rfl
    simpa[eqD,eqV]using this
   | bl y=>
    unfold Rep at h'
    subst h'
    have:=eqAt_V (A:=A) (s:=s) r r' rfl rfl
    simpa[eqD,eqV]using this
   | int y=>
    unfold Rep at h'
    subst h'
    have:=eqAt_V (A:=A) (s:=s) r r' rfl rfl
    simpa[eqD,eqV]using this
   | str y=>
    unfold Rep at h'
    subst h'
    have:=eqAt_V (A:=A) (s:=s) r r' rfl rfl
    simpa[eqD,eqV]using this
   | tup y=>
    unfold Rep at h'
    obtain⟨a,xs,rfl,_,q1,_⟩:=h'
    cases r'
    obtain⟨its,_,p,_⟩:=I.tuple q1
    obtain⟨t,rfl⟩:=r
    simp only[eqD]
    exact SeqAt.EqAt.str_tuple x t p hu
   | lst y=>
    unfold Rep at h'
    obtain⟨a,xs,rfl,_,q1,_⟩:=h'
    cases r'
    obtain⟨its,_,p,_⟩:=I.list q1
    obtain⟨t,rfl⟩:=r
    simp only[eqD]
    exact SeqAt.EqAt.str_list x t p.isList hu
  | tup l=>
   have h0:=h
   unfold Rep at h
   obtain⟨a,xs,rfl,na,q1,q2⟩:=h
   cases r
   obtain⟨its,r1,p1,_⟩:=I.tuple q1
   have hd':depL l<=k:=by simp only[Dt.dep]at hd;omega
   cases e with
   | non=>
    unfold Rep at h'
    subst h'
    cases r'
    simp only[eqD]
    exact SeqAt.EqAt.tuple_none p1 hu
   | bl y=>
    unfold Rep at h'
    subst h'
    cases r'
    simp only[eqD]
    exact SeqAt.EqAt.tuple_bool y p1 hu
   | int y=>
    unfold Rep at h'
    subst h'
    obtain⟨t,rfl⟩:=r'
    simp only[eqD]
    exact SeqAt.EqAt.tuple_int y t p1 hu
   | str y=>
    unfold Rep at h'
    subst h'
    obtain⟨t,rfl⟩:=r'
    simp only[eqD]
    exact SeqAt.EqAt.tuple_str y t p1 hu
   | tup q=>
    have h0':=h'
    unfold Rep at h'
    obtain⟨b,ys,rfl,nb,k1,k2⟩:=h'
    cases r'
    obtain⟨its2,r2,p2,_⟩:=I.tuple k1
    by_cases hab:a=b
    ·subst hab
     have:=Rep.inj I h0 h0'
     rw[<-this,eqD_self]
     exact SeqAt.EqAt.same _
    ·refine SeqAt.EqAt.of_refs hab ?_
     simp only[eqD]
     have:=SeqAt.RcAt.tuples (A:=A) (s:=s) p1 p2 hu (items_eq (A:=A.in1) (λ d e=>ih A.in1 hA' d e) hd' q2 k2 r1 r2)
     rw[eq_tup_val q2 k2 r1 r2]at this
     exact this
   | lst q=>
    have h0':=h'
    unfold Rep at h'
    obtain⟨b,ys,rfl,nb,k1,k2⟩:=h'
    cases r'
    obtain⟨its2,r2,p2,_⟩:=I.list k1
    simp only[eqD]
    exact SeqAt.EqAt.tuple_list p1 p2.isList hu
  | lst l=>
   have h0:=h
   unfold Rep at h
   obtain⟨a,xs,rfl,na,q1,q2⟩:=h
   cases r
   obtain⟨its,r1,p1,_⟩:=I.list q1
   have hd':depL l<=k:=by simp only[Dt.dep]at hd;omega
   cases e with
   | non=>
    unfold Rep at h'
    subst h'
    cases r'
    simp only[eqD]
    exact SeqAt.EqAt.list_none p1.isList hu
   | bl y=>
    unfold Rep at h'
    subst h'
    cases r'
    simp only[eqD]
    exact SeqAt.EqAt.list_bool y p1.isList hu
   | int y=>
    unfold Rep at h'
    subst h'
    obtain⟨t,rfl⟩:=r'
    simp only[eqD]
    exact SeqAt.EqAt.list_int y t p1.isList hu
   | str y=>
    unfold Rep at h'
    subst h'
    obtain⟨t,rfl⟩:=r'
    simp only[eqD]
    exact SeqAt.EqAt.list_str y t p1.isList hu
   | tup q=>
    have h0':=h'
    unfold Rep at h'
    obtain⟨b,ys,rfl,nb,k1,k2⟩:=h'
    cases r'
    obtain⟨its2,r2,p2,_⟩:=I.tuple k1
    simp only[eqD]
    exact SeqAt.EqAt.list_tuple p1.isList p2 hu
   | lst q=>
    have h0':=h'
    unfold Rep at h'
    obtain⟨b,ys,rfl,nb,k1,k2⟩:=h'
    cases r'
    obtain⟨its2,r2,p2,_⟩:=I.list k1
    by_cases hab:a=b
    ·subst hab
     have:=Rep.inj I h0 h0'
     rw[<-this,eqD_self]
     exact SeqAt.EqAt.same _
    ·refine SeqAt.EqAt.of_refs hab ?_
     simp only[eqD]
     have n1:l.length=its.toArray.size:=by simpa using q2.length.trans r1.length
     have n2:q.length=its2.toArray.size:=by simpa using k2.length.trans r2.length
     by_cases hn:l.length=q.length
     ·have:=SeqAt.RcAt.lists (A:=A) (s:=s) p1.isList p2.isList (by rw[<-n1,<-n2];exact hn) hu (items_eq (A:=A.in1) (λ d e=>ih A.in1 hA' d e) hd' q2 k2 r1 r2)
      rw[<-n1,<-eqDL_range hn]at this
      exact this
     ·rw[eqDL_len hn]
      refine SeqAt.RcAt.lists_lengths p1.isList p2.isList ?_ hu
      rw[<-n1,<-n2]
      simpa using hn
def rEqD (K:PySem.W.Frag)(neg:Bool):R2:=λ x y H Q=>∃ (N N':Addr->Prop) (l q:List Dt) (c:Bool),(Rep K N H (if c then .tup l else .lst l) x/\Rep K N' H (if c then .tup q else .lst q) y)/\depL l<=20/\Q (.bl (if neg then !eqDL l q else eqDL l q)) H
theorem op_eqD (hu:X.A.units+30 < cLine):OpR X (compareOp .Eq) (rEqD X.K false):=by
 intro pins s σ H x y v u Q I rx ry h
 obtain⟨N,N',l,q,c,⟨h1,h2⟩,hd,hq⟩:=h
 have hu0:X.A.units < cLine:=by omega
 have hu1:X.A.in1.units+20 < cLine:=by have:X.A.in1.units=X.A.units+1:=rfl;omega
 cases c with
 | true=>
  simp only[if_true]at h1 h2
  unfold Rep at h1 h2
  obtain⟨a,xs,rfl,_,q1,q2⟩:=h1
  obtain⟨b,ys,rfl,_,k1,k2⟩:=h2
  cases rx
  cases ry
  obtain⟨its,r1,p1,_⟩:=I.tuple q1
  obtain⟨its2,r2,p2,_⟩:=I.tuple k1
  have:=SeqAt.RcAt.tuples (A:=X.A) (s:=s) p1 p2 hu0 (items_eq (A:=X.A.in1) (λ d e=>eqAt_D I 20 X.A.in1 hu1 d e) hd q2 k2 r1 r2)
  rw[eq_tup_val q2 k2 r1 r2]at this
  exact this X.prog X.w _ _ ⟨.bl _,H,I,rfl,hq⟩
 | false=>
  simp only[Bool.false_eq_true,if_false]at h1 h2
  unfold Rep at h1 h2
  obtain⟨a,xs,rfl,_,q1,q2⟩:=h1
  obtain⟨b,ys,rfl,_,k1,k2⟩:=h2
  cases rx
  cases ry
  obtain⟨its,r1,p1,_⟩:=I.list q1
  obtain⟨its2,r2,p2,_⟩:=I.list k1
  have n1:l.length=its.toArray.size:=by simpa using q2.length.trans r1.length
  have n2:q.length=its2.toArray.size:=by simpa using k2.length.trans r2.length
  by_cases hn:l.length=q.length
  ·have:=SeqAt.RcAt.lists (A:=X.A) (s:=s) p1.isList p2.isList (by rw[<-n1,<-n2];exact hn) hu0 (items_eq (A:=X.A.in1) (λ d e=>eqAt_D I 20 X.A.in1 hu1 d e) hd q2 k2 r1 r2)
   rw[<-n1,<-eqDL_range hn]at this
   exact this X.prog X.w _ _ ⟨.bl _,H,I,rfl,hq⟩
  ·simp only[eqDL_len hn]at hq
   exact SeqAt.RcAt.lists_lengths p1.isList p2.isList (by rw[<-n1,<-n2];simpa using hn) hu0 X.prog X.w _ _ ⟨.bl _,H,I,rfl,hq⟩
theorem op_neD (hu:X.A.units+30 < cLine):OpR X (compareOp .NotEq) (rEqD X.K true):=by
 intro pins s σ H x y v u Q I rx ry h
 obtain⟨N,N',l,q,c,⟨h1,h2⟩,hd,hq⟩:=h
 have hu0:X.A.units < cLine:=by omega
 have hu1:X.A.in1.units+20 < cLine:=by have:X.A.in1.units=X.A.units+1:=rfl;omega
 cases c with
 | true=>
  simp only[if_true]at h1 h2
  unfold Rep at h1 h2
  obtain⟨a,xs,rfl,_,q1,q2⟩:=h1
  obtain⟨b,ys,rfl,_,k1,k2⟩:=h2
  cases rx
  cases ry
  obtain⟨its,r1,p1,_⟩:=I.tuple q1
  obtain⟨its2,r2,p2,_⟩:=I.tuple k1
  have:=SeqAt.RcNeAt.tuples (A:=X.A) (s:=s) p1 p2 hu0 (items_eq (A:=X.A.in1) (λ d e=>eqAt_D I 20 X.A.in1 hu1 d e) hd q2 k2 r1 r2)
  rw[eq_tup_val q2 k2 r1 r2]at this
  exact this X.prog X.w _ _ ⟨.bl _,H,I,rfl,hq⟩
 | false=>
  simp only[Bool.false_eq_true,if_false]at h1 h2
  unfold Rep at h1 h2
  obtain⟨a,xs,rfl,_,q1,q2⟩:=h1
  obtain⟨b,ys,rfl,_,k1,k2⟩:=h2
  cases rx
  cases ry
  obtain⟨its,r1,p1,_⟩:=I.list q1
  obtain⟨its2,r2,p2,_⟩:=I.list k1
  have n1:l.length=its.toArray.size:=by simpa using q2.length.trans r1.length
  have n2:q.length=its2.toArray.size:=by simpa using k2.length.trans r2.length
  by_cases hn:l.length=q.length
  ·have:=SeqAt.RcNeAt.lists (A:=X.A) (s:=s) p1.isList p2.isList (by rw[<-n1,<-n2];exact hn) hu0 (items_eq (A:=X.A.in1) (λ d e=>eqAt_D I 20 X.A.in1 hu1 d e) hd q2 k2 r1 r2)
   rw[<-n1,<-eqDL_range hn]at this
   exact this X.prog X.w _ _ ⟨.bl _,H,I,rfl,hq⟩
  ·simp only[eqDL_len hn]at hq
   exact SeqAt.RcNeAt.lists_lengths p1.isList p2.isList (by rw[<-n1,<-n2];simpa using hn) hu0 X.prog X.w _ _ ⟨.bl _,H,I,rfl,hq⟩
end
end L2
namespace L2
open PySem PySem.Spec PyProof.Rows
theorem SrcOk.any {X:Cx}{scope:Scope}:∀ {l:List (Str × Option Nat)},SrcOk X scope l->∀ {x:Str},(l.any λ p=>p.1 == x && p.2.isSome)=true->X.env.kindOf x=some .cell∨X.env.kindOf x=some .free
 | [],_,x,e=>by simp at e
 | (y,none) :: r,h,x,e=>SrcOk.any (l:=r) h (by simpa using e)
 | (y,some k) :: r,h,x,e=>by
  rw[List.any_cons,Bool.or_eq_true]at e
  rcases e with e|e
  ·have:y=x:=by simpa using e
   subst this
   exact h.1.2.2
  ·exact SrcOk.any (l:=r) h.2 e
theorem CompScope.of {X:Cx}{scope:Scope}{l:List (Str × Option Nat)}(hk:scope.kind=.function)(hc:∀ y∈scope.names,y.2=.cell->scope.names.lookup y.1=some .cell)(hn:∀ y∈scope.names,y.2=.local->scope.names.lookup y.1=some .local)
  (hf:∀ y∈scope.names,y.2=.free->(l.any λ p=>p.1 == y.1 && p.2.isSome)=true) (hs:SrcOk X scope l):CompScope X scope l:=⟨hk,hc,hn,λ y hy hyf=>hs.any (hf y hy hyf),hs⟩
theorem fit9 {i:Int}(h:Fit 64 i):Fit 9000 i:=h.mono (by decide)
end L2
namespace L2
open PySem PySem.Spec PyProof.Rows
def ItK (c:Bool)(h:Heap)(i l:Addr)(k:Nat):Prop:=if c=true then h.IsTupleIter i l k else h.IsListIter i l k
def SeqK (c:Bool)(h:Heap)(l:Addr)(xs:Array Value):Prop:=if c=true then h.IsTuple l xs else h.IsList l xs
theorem ItK.at {c:Bool}{h h':Heap}{i l:Addr}{k:Nat}(x:ItK c h i l k)(e:∀ o,h.get? i=some o->h'.get? i=some o):ItK c h' i l k:=by
 cases c with
 | true=>obtain⟨o,ho,r⟩:=(show h.IsTupleIter i l k from x);exact(show h'.IsTupleIter i l k from⟨o,e o ho,r⟩)
 | false=>obtain⟨o,ho,r⟩:=(show h.IsListIter i l k from x);exact(show h'.IsListIter i l k from⟨o,e o ho,r⟩)
theorem SeqK.at {c:Bool}{h h':Heap}{l:Addr}{xs:Array Value}(x:SeqK c h l xs)(e:∀ o,h.get? l=some o->h'.get? l=some o):SeqK c h' l xs:=by
 cases c with
 | true=>obtain⟨o,ho,r⟩:=(show h.IsTuple l xs from x);exact(show h'.IsTuple l xs from⟨o,e o ho,r⟩)
 | false=>obtain⟨o,ho,r⟩:=(show h.IsList l xs from x);exact(show h'.IsList l xs from⟨o,e o ho,r⟩)
theorem ItK.obj {c:Bool}{h:Heap}{i l:Addr}{k:Nat}(x:ItK c h i l k):∃ o,h.get? i=some o/\∀ v,o.data≠.cell v:=by
 cases c with
 | true=>obtain⟨o,ho,_,d⟩:=(show h.IsTupleIter i l k from x);exact⟨o,ho,λ v z=>by rw[d]at z;cases z⟩
 | false=>obtain⟨o,ho,_,d⟩:=(show h.IsListIter i l k from x);exact⟨o,ho,λ v z=>by rw[d]at z;cases z⟩
section
variable {prog:Program}{w:World}{A:Around}{E:Value->Shared->Prop}{s:Shared}
theorem nxK_item {c:Bool}{i l:Addr}{k:Nat}{xs:Array Value}{v:Value}{Q:Value->Shared->Prop}(hi:ItK c s.heap i l k)(hl:SeqK c s.heap l xs)(hx:xs[k]? = some v)
  (hQ:∀ h',ItK c h' i l (k+1)->Heap.SameBut i s.heap h'->Q v { s with heap:=h' }):wpAny (model prog w) A (Builtin.SmallTypes.nextOf (.ref i)) Q E s:=by
 cases c with
 | false=>exact wpAny_nextOf_list_item hi hl hx hQ
 | true=>
  have hi':s.heap.IsTupleIter i l k:=hi
  obtain⟨o1,g1,g2,g3⟩:=id hi'
  obtain⟨o2,f1,_,n2,f3⟩:=(show s.heap.IsTuple l xs from hl)
  unfold Builtin.SmallTypes.nextOf
  refine wpAny_bind (wpAny_callSpecial?_slot (name:=Str.ofString "__next__") hi'.typeIs F.slot_tuple_iterator_next (wpAny_call_entry F.slot_tuple_iterator_next hi'.typeIs F.entry_tuple_iterator_next ?_ (F.args_tuple_iterator_next_1 _)))
  show wpAny _ _ (field (.ref i) 0 >>= _) _ _ s
  refine wpAny_bind (wpAny_field g1 g3 (x:=.ref l) rfl ?_)
  show wpAny _ _ (if (Value.ref l == Value.none)=true then _ else _) _ _ s
  rw[if_neg (show ¬ ((Value.ref l == Value.none)=true) from Bool.false_ne_true)]
  show wpAny _ _ (field (.ref i) 1 >>= _) _ _ s
  refine wpAny_bind (wpAny_field g1 g3 (x:=.int k 0) rfl ?_)
  show wpAny _ _ (seqItems? (.ref l) >>= _) _ _ s
  refine wpAny_bind (wpAny_seqItems f1 f3 ?_)
  simp only[Int.toNat_natCast,hx]
  refine wpAny_bind (wpAny_setField g1 g3 (by simp) (wpAny_pure ⟨v,rfl,wpAny_pure (hQ _ (show Heap.IsTupleIter _ i l (k+1) from ?_) (Heap.SameBut.update ..))⟩))
  refine⟨_,Heap.get?_update_self _ g1 (Obj.isFreed_of_fields (Obj.data_mapFields g3 _)),(Obj.cls_mapFields ..).trans g2,?_⟩
  rw[Obj.data_mapFields g3]
  simp[rawInt]
theorem nxK_end {c:Bool}{i l:Addr}{k:Nat}{xs:Array Value}{Q:Value->Shared->Prop}(hh:A.handled=none)(hi:ItK c s.heap i l k)(hl:SeqK c s.heap l xs)(hx:xs[k]? = none)
  (hE:∀ h' e,Heap.ExtBut i s.heap h'->(∃ o,h'.get? e=some o/\o.cls=.type "StopIteration")->E (.ref e) { s with heap:=h' }):wpAny (model prog w) A (Builtin.SmallTypes.nextOf (.ref i)) Q E s:=by
 cases c with
 | false=>exact wpAny_nextOf_list_end hh hi hl hx hE
 | true=>
  have hi':s.heap.IsTupleIter i l k:=hi
  obtain⟨o1,g1,g2,g3⟩:=id hi'
  obtain⟨o2,f1,_,n2,f3⟩:=(show s.heap.IsTuple l xs from hl)
  unfold Builtin.SmallTypes.nextOf
  refine wpAny_bind (wpAny_callSpecial?_slot (name:=Str.ofString "__next__") hi'.typeIs F.slot_tuple_iterator_next (wpAny_call_entry F.slot_tuple_iterator_next hi'.typeIs F.entry_tuple_iterator_next ?_ (F.args_tuple_iterator_next_1 _)))
  show wpAny _ _ (field (.ref i) 0 >>= _) _ _ s
  refine wpAny_bind (wpAny_field g1 g3 (x:=.ref l) rfl ?_)
  show wpAny _ _ (if (Value.ref l == Value.none)=true then _ else _) _ _ s
  rw[if_neg (show ¬ ((Value.ref l == Value.none)=true) from Bool.false_ne_true)]
  show wpAny _ _ (field (.ref i) 1 >>= _) _ _ s
  refine wpAny_bind (wpAny_field g1 g3 (x:=.int k 0) rfl ?_)
  show wpAny _ _ (seqItems? (.ref l) >>= _) _ _ s
  refine wpAny_bind (wpAny_seqItems f1 f3 ?_)
  simp only[Int.toNat_natCast,hx]
  refine wpAny_bind (wpAny_rule (wpAny_bind (wpAny_setField g1 g3 (by simp) ?_)))
  show wpAny _ _ (newExc (.type "StopIteration") [] >>= _) _ _ _
  refine wpAny_bind ?_
  simp only[newExc,newTuple]
  refine wpAny_bind (wpAny_newObj_type ?_ (by size_fits))
  refine wpAny_bind (m:=firstArgMember _ _) (wpAny_of_eq (a:=Value.none) (by first|rfl|(simp only[firstArgMember];rfl)) ?_)
  refine wpAny_newObj_type ?_ (by size_fits)
  simp only[raiseNew]
  refine wpAny_bind (wpAny_handled ?_)
  first|rw[show A.in1.handled=none from hh]|rw[hh]
  refine wpAny_bind (wpAny_pure (wpAny_throw ?_))
  exact hE _ _ (((Heap.SameBut.update ..).extBut.push _).push _) ⟨_,Heap.get?_push_size _ rfl,rfl⟩
structure ZK (c1 c2:Bool)(h:Heap)(z a b i j l m:Addr)(k:Nat):Prop where
 zz:IsZip h z a b .none
 ins:IsPair h a (.ref i) (.ref j)
 out:∃ x y,IsPair h b x y
 i1:ItK c1 h i l k
 i2:ItK c2 h j m k
theorem zK_item {c1 c2:Bool}{z a b i j l m:Addr}{k:Nat}{xs ys:Array Value}{x y:Value}{Q:Option Value->Shared->Prop}(D:ZipApart z a b i j l m)(Z:ZK c1 c2 s.heap z a b i j l m k)
  (hl1:SeqK c1 s.heap l xs) (hl2:SeqK c2 s.heap m ys) (hx:xs[k]? = some x) (hy:ys[k]? = some y)
  (hQ:∀ h',IsZip h' z a b (rawInt s.heap.objs.size)->IsPair h' a (.ref i) (.ref j)->IsPair h' b x y->ItK c1 h' i l (k+1)->ItK c2 h' j m (k+1)->IsPair h' s.heap.objs.size x y->
   (∀ d o,d≠z->d≠b->d≠i->d≠j->s.heap.get? d=some o->h'.get? d=some o)->Q (some (.ref s.heap.objs.size)) { s with heap:=h' }) :
  wpAny (model prog w) A (pyNext (.ref z)) Q E s:=by
 obtain⟨hz,hTI,⟨p1,p2,hTO⟩,h1,h2⟩:=Z
 have hT:s.TypeIs (.ref z) "zip":=⟨_,hz,rfl⟩
 unfold pyNext
 refine wpAny_bind (wpAny_attempt (wpAny_callSpecial?_slot (name:=Str.ofString "__next__") hT F.slot_zip_next (wpAny_call_entry F.slot_zip_next hT F.entry_zip_next ?_ (F.args_zip_next_1 _))))
 show wpAny _ _ (field (.ref z) 2 >>= _) _ _ _
 refine wpAny_bind (wpAny_field hz rfl (x:=.bool false) rfl ?_)
 show wpAny _ _ (field (.ref z) 3 >>= _) _ _ _
 refine wpAny_bind (wpAny_field hz rfl (x:=.ref a) rfl ?_)
 refine wpAny_bind (wpAny_seqItems hTI rfl ?_)
 show wpAny _ _ (Builtin.SmallTypes.ownedTupleIsFree (.ref z) >>= _) _ _ _
 refine wpAny_bind ?_
 unfold Builtin.SmallTypes.ownedTupleIsFree
 refine wpAny_bind (wpAny_field hz rfl (x:=.none) rfl (wpAny_pure ?_))
 simp only[if_true]
 refine wpAny_bind (wpAny_rule ?_)
 refine wpAny_bind (wpAny_field hz rfl (x:=.ref b) rfl ?_)
 refine wpAny_bind (wpAny_setField_rec hz (by simp) λ q1 z1 t1=>?_)
 replace z1:IsZip q1 z a b .ellipsis:=z1
 refine wpAny_bind ?_
 simp only[List.zipIdx_cons,List.zipIdx_nil,List.forIn_cons,List.forIn_nil]
 refine wpAny_bind (wpAny_bind (wpAny_onRaise ?_))
 show wpAny _ _ (Builtin.SmallTypes.nextOf (.ref i) >>= _) _ _ _
 refine wpAny_bind (nxK_item (s:={ s with heap:=q1 }) (h1.at λ o e=>t1.extBut _ _ D.i1z e) (hl1.at λ o e=>t1.extBut _ _ D.l1z e) hx λ q2 i2 t2=>wpAny_pure ?_)
 have b2:IsPair q2 b p1 p2:=t2.extBut _ _ D.TOi1 (t1.extBut _ _ D.TOz hTO)
 refine wpAny_bind (wpAny_seqItems b2 rfl ?_)
 refine wpAny_bind (wpAny_updateSeq_pair b2 λ q3 b3 t3=>?_)
 replace b3:IsPair q3 b x p2:=b3
 refine wpAny_bind (wpAny_letGo (wpAny_pure ?_))
 refine wpAny_bind (wpAny_bind (wpAny_onRaise ?_))
 show wpAny _ _ (Builtin.SmallTypes.nextOf (.ref j) >>= _) _ _ _
 refine wpAny_bind (nxK_item (s:={ s with heap:=q3 }) (h2.at λ o e=>t3.extBut _ _ D.TOi2.symm (t2.extBut _ _ D.i12.symm (t1.extBut _ _ D.i2z e)))
  (hl2.at λ o e=>t3.extBut _ _ D.l2TO (t2.extBut _ _ D.l2i1 (t1.extBut _ _ D.l2z e))) hy λ q4 j4 t4=>wpAny_pure ?_)
 have b4:IsPair q4 b x p2:=t4.extBut _ _ D.TOi2 b3
 refine wpAny_bind (wpAny_seqItems b4 rfl ?_)
 refine wpAny_bind (wpAny_updateSeq_pair b4 λ q5 b5 t5=>?_)
 replace b5:IsPair q5 b x y:=b5
 refine wpAny_bind (wpAny_letGo (wpAny_pure (wpAny_pure ?_)))
 refine wpAny_bind (wpAny_seqItems b5 rfl ?_)
 refine wpAny_bind (wpAny_newTuple ?_)
 have hsz:q5.objs.size=s.heap.objs.size:=by rw[t5.1,t4.1,t3.1,t2.1,t1.1]
 have z5:IsZip q5 z a b .ellipsis:=t5.extBut _ _ D.TOz.symm (t4.extBut _ _ D.i2z.symm (t3.extBut _ _ D.TOz.symm (t2.extBut _ _ D.i1z.symm z1)))
 have k5:∀ d o,d≠z->d≠b->d≠i->d≠j->s.heap.get? d=some o->q5.get? d=some o:=λ d o e1 e2 e3 e4 e=>
  t5.extBut _ _ e2 (t4.extBut _ _ e4 (t3.extBut _ _ e2 (t2.extBut _ _ e3 (t1.extBut _ _ e1 e))))
 have i5:ItK c1 q5 i l (k+1):=i2.at λ o e=>t5.extBut _ _ D.TOi1.symm (t4.extBut _ _ D.i12 (t3.extBut _ _ D.TOi1.symm e))
 have j5:ItK c2 q5 j m (k+1):=j4.at λ o e=>t5.extBut _ _ D.TOi2.symm e
 have zlt:z < q5.objs.size:=Heap.lt_size z5
 show wpAny _ _ (Builtin.SmallTypes.ownedTupleHandOut (.ref z) (.ref q5.objs.size) >>= _) _ _ _
 refine wpAny_bind ?_
 unfold Builtin.SmallTypes.ownedTupleHandOut
 have z6:IsZip (q5.push { cls:=.type "tuple",data:=.seq #[x,y] }) z a b .ellipsis:=Heap.get?_push_of_some _ z5
 refine wpAny_bind (wpAny_setField_rec z6 (by simp) λ q7 z7 t7=>?_)
 replace z7:IsZip q7 z a b (rawInt q5.objs.size):=z7
 refine wpAny_setField_rec z7 (by simp) λ q8 z8 t8=>?_
 replace z8:IsZip q8 z a b (rawInt q5.objs.size):=z8
 have up:∀ d o,d≠z->q5.get? d=some o->q8.get? d=some o:=λ d o e1 e=>t8.extBut _ _ e1 (t7.extBut _ _ e1 (Heap.get?_push_of_some _ e))
 have T8:IsPair q8 q5.objs.size x y:=t8.extBut _ _ (Nat.ne_of_gt zlt) (t7.extBut _ _ (Nat.ne_of_gt zlt) (Heap.get?_push_size _ rfl))
 rw[hsz]at z8 T8
 refine wpAny_pure ⟨_,rfl,wpAny_pure ?_⟩
 show Q (some (.ref q5.objs.size)) _
 rw[hsz]
 exact hQ q8 z8 (up _ _ D.TIz (k5 _ _ D.TIz D.TITO D.TIi1 D.TIi2 hTI)) (up _ _ D.TOz b5) (i5.at λ o e=>up _ o D.i1z e) (j5.at λ o e=>up _ o D.i2z e) T8 λ d o e1 e2 e3 e4 e=>up d o e1 (k5 d o e1 e2 e3 e4 e)
theorem zK_end {c1 c2:Bool}{z a b i j l m:Addr}{k:Nat}{xs ys:Array Value}{Q:Option Value->Shared->Prop}(hh:A.handled=none)(D:ZipApart z a b i j l m)(Z:ZK c1 c2 s.heap z a b i j l m k)
  (hl1:SeqK c1 s.heap l xs) (hl2:SeqK c2 s.heap m ys) (hend:xs[k]? = none∨ys[k]? = none)
  (hQ:∀ h',(∀ d o,d≠z->d≠b->d≠i->d≠j->s.heap.get? d=some o->h'.get? d=some o)->Q none { s with heap:=h' }):wpAny (model prog w) A (pyNext (.ref z)) Q E s:=by
 obtain⟨hz,hTI,⟨p1,p2,hTO⟩,h1,h2⟩:=Z
 have hT:s.TypeIs (.ref z) "zip":=⟨_,hz,rfl⟩
 unfold pyNext
 have last:∀ h' e,(∀ d o,d≠z->d≠b->d≠i->d≠j->s.heap.get? d=some o->h'.get? d=some o)->(∃ o,h'.get? e=some o/\o.cls=.type "StopIteration")->
   wpAny (model prog w) A (do if <-isInstance (.ref e) (.type "StopIteration") then pure none else throw (.ref e):Sem (Option Value)) Q E { s with heap:=h' }:=λ h' e hk ⟨o,ho,hc⟩=>
  wpAny_bind (wpAny_isInstance (T:="StopIteration") (b:=true) ⟨o,ho,hc⟩ isSubtype_stop (wpAny_pure (hQ h' hk)))
 refine wpAny_bind (wpAny_attempt (wpAny_callSpecial?_slot (name:=Str.ofString "__next__") hT F.slot_zip_next (wpAny_call_entry F.slot_zip_next hT F.entry_zip_next ?_ (F.args_zip_next_1 _))))
 show wpAny _ _ (field (.ref z) 2 >>= _) _ _ _
 refine wpAny_bind (wpAny_field hz rfl (x:=.bool false) rfl ?_)
 show wpAny _ _ (field (.ref z) 3 >>= _) _ _ _
 refine wpAny_bind (wpAny_field hz rfl (x:=.ref a) rfl ?_)
 refine wpAny_bind (wpAny_seqItems hTI rfl ?_)
 show wpAny _ _ (Builtin.SmallTypes.ownedTupleIsFree (.ref z) >>= _) _ _ _
 refine wpAny_bind ?_
 unfold Builtin.SmallTypes.ownedTupleIsFree
 refine wpAny_bind (wpAny_field hz rfl (x:=.none) rfl (wpAny_pure ?_))
 simp only[if_true]
 refine wpAny_bind (wpAny_rule ?_)
 refine wpAny_bind (wpAny_field hz rfl (x:=.ref b) rfl ?_)
 refine wpAny_bind (wpAny_setField_rec hz (by simp) λ q1 z1 t1=>?_)
 replace z1:IsZip q1 z a b .ellipsis:=z1
 refine wpAny_bind ?_
 simp only[List.zipIdx_cons,List.zipIdx_nil,List.forIn_cons,List.forIn_nil]
 refine wpAny_bind (wpAny_bind (wpAny_onRaise ?_))
 show wpAny _ _ (Builtin.SmallTypes.nextOf (.ref i) >>= _) _ _ _
 cases hx:xs[k]? with
 | none=>
  refine wpAny_bind (nxK_end (s:={ s with heap:=q1 }) hh (h1.at λ o e=>t1.extBut _ _ D.i1z e) (hl1.at λ o e=>t1.extBut _ _ D.l1z e) hx λ q2 e t2 he=>?_)
  obtain⟨oe,hoe,hce⟩:=he
  have z2:IsZip q2 z a b .ellipsis:=t2 _ _ D.i1z.symm z1
  have hez:e≠z:=λ x=>by subst x;rw[z2]at hoe;cases hoe;simp at hce
  refine wpAny_setField_rec z2 (by simp) λ q3 _ t3=>?_
  exact last q3 e (λ d o e1 _ e3 _ x=>t3.extBut _ _ e1 (t2 _ _ e3 (t1.extBut _ _ e1 x))) ⟨oe,t3.extBut _ _ hez hoe,hce⟩
 | some x=>
  have hy:ys[k]? = none:=by
   rcases hend with h|h
   ·rw[hx]at h;cases h
   ·exact h
  refine wpAny_bind (nxK_item (s:={ s with heap:=q1 }) (h1.at λ o e=>t1.extBut _ _ D.i1z e) (hl1.at λ o e=>t1.extBut _ _ D.l1z e) hx λ q2 i2 t2=>wpAny_pure ?_)
  have b2:IsPair q2 b p1 p2:=t2.extBut _ _ D.TOi1 (t1.extBut _ _ D.TOz hTO)
  refine wpAny_bind (wpAny_seqItems b2 rfl ?_)
  refine wpAny_bind (wpAny_updateSeq_pair b2 λ q3 b3 t3=>?_)
  refine wpAny_bind (wpAny_letGo (wpAny_pure ?_))
  refine wpAny_bind (wpAny_bind (wpAny_onRaise ?_))
  show wpAny _ _ (Builtin.SmallTypes.nextOf (.ref j) >>= _) _ _ _
  refine wpAny_bind (nxK_end (s:={ s with heap:=q3 }) hh (h2.at λ o e=>t3.extBut _ _ D.TOi2.symm (t2.extBut _ _ D.i12.symm (t1.extBut _ _ D.i2z e)))
   (hl2.at λ o e=>t3.extBut _ _ D.l2TO (t2.extBut _ _ D.l2i1 (t1.extBut _ _ D.l2z e))) hy λ q4 e t4 he=>?_)
  obtain⟨oe,hoe,hce⟩:=he
  have z4:IsZip q4 z a b .ellipsis:=t4 _ _ D.i2z.symm (t3.extBut _ _ D.TOz.symm (t2.extBut _ _ D.i1z.symm z1))
  have hez:e≠z:=λ x=>by subst x;rw[z4]at hoe;cases hoe;simp at hce
  refine wpAny_setField_rec z4 (by simp) λ q5 _ t5=>?_
  exact last q5 e (λ d o e1 e2 e3 e4 x=>t5.extBut _ _ e1 (t4 _ _ e4 (t3.extBut _ _ e2 (t2.extBut _ _ e3 (t1.extBut _ _ e1 x))))) ⟨oe,t5.extBut _ _ hez hoe,hce⟩
theorem new_zipT (l m:Addr)(xs ys:Array Value) :
  Meets (Builtin.«zip.__new__» ⟨[.type "zip",.ref l,.ref m],[]⟩) (λ _ R s=>s.heap.IsTuple l xs/\s.heap.IsTuple m ys/\
   R (.ok (.ret (.ref (s.heap.objs.size+4)))) { s with heap:=((((s.heap.push { cls:=.type "tuple_iterator",data:=.fields #[.ref l,.int 0 0] }).push { cls:=.type "tuple_iterator",data:=.fields #[.ref m,.int 0 0] }).push
    { cls:=.type "tuple",data:=.seq #[.ref s.heap.objs.size,.ref (s.heap.objs.size+1)] }).push { cls:=.type "tuple",data:=.seq #[.none,.none] }).push { cls:=.type "zip",data:=.fields #[.none,.bool false,.bool false,.ref (s.heap.objs.size+2),.ref (s.heap.objs.size+3)] } }):=
 .of_wp λ prog w A R s h=>by
  obtain⟨hp,g,d,tk,os⟩:=s;obtain⟨hl1,hl2,h⟩:=h
  have hsub:=sub_zip
  have hL1:Heap.IsTuple (Shared.heap ⟨hp,g,d,tk,os⟩) l xs:=hl1
  have hL2:Heap.IsTuple (Shared.heap ⟨hp.push { cls:=.type "tuple_iterator",data:=.fields #[.ref l,.int 0 0] },g,d,tk,os⟩) m ys:=Heap.IsTuple.push hl2 _
  wp_walk using wpAny_pyIter_tuple hL1,wpAny_pyIter_tuple hL2
  simp only[Heap.size_push]at h ⊢
  exact⟨_,rfl,h⟩
theorem zip_made {c:Bool}{l m:Addr}{xs ys:Array Value}{Q:Value->Shared->Prop}(hl1:SeqK c s.heap l xs)(hl2:SeqK c s.heap m ys)
  (k:∀ h',ZK c c h' (s.heap.objs.size+4) (s.heap.objs.size+2) (s.heap.objs.size+3) s.heap.objs.size (s.heap.objs.size+1) l m 0->(∀ d o,s.heap.get? d=some o->h'.get? d=some o)->Q (.ref (s.heap.objs.size+4)) { s with heap:=h' }) :
  wpAny (model prog w) A (call (.type "zip") [.ref l,.ref m]) Q E s:=by
 cases c with
 | false=>exact call_zip_2 hl1 hl2 λ h' hz hTI hTO hi1 hi2 _ hk=>k h' ⟨hz,hTI,⟨_,_,hTO⟩,hi1,hi2⟩ hk
 | true=>
  refine callType_new F.called_zip (by decide) (F.typeCall_zip_2 _ _) (F.newCall_zip_2 _ _) (λ obj=>F.args_object_init_3 obj _ _) F.entry_zip_new (new_zipT l m xs ys) ⟨hl1,hl2,?_⟩
  have p:∀ (h:Heap) (o1 o2 o3 o4 o5:Obj) (d:Addr) (o:Obj),h.get? d=some o->(((((h.push o1).push o2).push o3).push o4).push o5).get? d=some o:=λ h o1 o2 o3 o4 o5 d o e=>
   Heap.get?_push_of_some _ (Heap.get?_push_of_some _ (Heap.get?_push_of_some _ (Heap.get?_push_of_some _ (Heap.get?_push_of_some _ e))))
  have q5:∀ (h:Heap) (o1 o2 o3 o4 o5:Obj),o5.isFreed=false->(((((h.push o1).push o2).push o3).push o4).push o5).get? (h.objs.size+4)=some o5:=λ h o1 o2 o3 o4 o5 f=>by
   have e:h.objs.size+4=((((h.push o1).push o2).push o3).push o4).objs.size:=by simp only[Heap.size_push]
   rw[e];exact Heap.get?_push_size _ f
  have q4:∀ (h:Heap) (o1 o2 o3 o4 o5:Obj),o4.isFreed=false->(((((h.push o1).push o2).push o3).push o4).push o5).get? (h.objs.size+3)=some o4:=λ h o1 o2 o3 o4 o5 f=>by
   have e:h.objs.size+3=(((h.push o1).push o2).push o3).objs.size:=by simp only[Heap.size_push]
   rw[e];exact Heap.get?_push_of_some _ (Heap.get?_push_size _ f)
  have q3:∀ (h:Heap) (o1 o2 o3 o4 o5:Obj),o3.isFreed=false->(((((h.push o1).push o2).push o3).push o4).push o5).get? (h.objs.size+2)=some o3:=λ h o1 o2 o3 o4 o5 f=>by
   have e:h.objs.size+2=((h.push o1).push o2).objs.size:=by simp only[Heap.size_push]
   rw[e];exact Heap.get?_push_of_some _ (Heap.get?_push_of_some _ (Heap.get?_push_size _ f))
  have q2:∀ (h:Heap) (o1 o2 o3 o4 o5:Obj),o2.isFreed=false->(((((h.push o1).push o2).push o3).push o4).push o5).get? (h.objs.size+1)=some o2:=λ h o1 o2 o3 o4 o5 f=>by
   have e:h.objs.size+1=(h.push o1).objs.size:=by simp only[Heap.size_push]
   rw[e];exact Heap.get?_push_of_some _ (Heap.get?_push_of_some _ (Heap.get?_push_of_some _ (Heap.get?_push_size _ f)))
  have q1:∀ (h:Heap) (o1 o2 o3 o4 o5:Obj),o1.isFreed=false->(((((h.push o1).push o2).push o3).push o4).push o5).get? h.objs.size=some o1:=λ h o1 o2 o3 o4 o5 f=>
   Heap.get?_push_of_some _ (Heap.get?_push_of_some _ (Heap.get?_push_of_some _ (Heap.get?_push_of_some _ (Heap.get?_push_size _ f))))
  exact⟨⟨_,q5 _ _ _ _ _ _ rfl,rfl⟩,k _ ⟨q5 _ _ _ _ _ _ rfl,q3 _ _ _ _ _ _ rfl,⟨_,_,q4 _ _ _ _ _ _ rfl⟩,⟨_,q1 _ _ _ _ _ _ rfl,rfl,rfl⟩,⟨_,q2 _ _ _ _ _ _ rfl,rfl,rfl⟩⟩ λ d o e=>p _ _ _ _ _ _ d o e⟩
end
def SqK (c:Bool)(K:PySem.W.Frag)(H:Hp)(a:Addr)(xs:List V):Prop:=if c=true then SqT K H a xs else SqL K H a xs
theorem Inv.sqK {X:Cx}{pins:List (Addr × Obj)}{σ:St}{H:Hp}{s:Shared}{c:Bool}{a:Addr}{xs:List V}(I:Inv X pins σ H s)(h:SqK c X.K H a xs):∃ its:List Value,Vals xs its/\SeqK c s.heap a its.toArray:=by
 cases c with
 | true=>obtain⟨its,r,p,_⟩:=I.tuple (show SqT X.K H a xs from h);exact⟨its,r,p⟩
 | false=>obtain⟨its,r,p,_⟩:=I.list (show SqL X.K H a xs from h);exact⟨its,r,p.isList⟩
theorem Inv.sqK_inj {X:Cx}{pins:List (Addr × Obj)}{σ:St}{H:Hp}{s:Shared}{c:Bool}{a:Addr}{xs ys:List V}(I:Inv X pins σ H s)(h:SqK c X.K H a xs)(k:SqK c X.K H a ys):xs=ys:=by
 cases c with
 | true=>exact I.tuple_inj (show SqT X.K H a xs from h) k
 | false=>exact I.list_inj (show SqL X.K H a xs from h) k
def Itz (c:Bool)(K:PySem.W.Frag)(a b:Addr):It:=
  ⟨λ i H=>∃ xs ys x y,SqK c K H a xs/\SqK c K H b ys/\xs[i]? = some x/\ys[i]? = some y,
   λ i H v H'=>∃ T x y,v=.ref T/\H T=none/\H'=upd H T (.tup [x,y])/\∀ xs ys,SqK c K H a xs->SqK c K H b ys->xs[i]? = some x/\ys[i]? = some y,
   λ i H=>∃ xs ys,SqK c K H a xs/\SqK c K H b ys/\(xs.length<=i∨ys.length<=i)⟩
theorem turn_zip {P:Program}{w:World}{K:PySem.W.Frag}{es:List Expr}{kk:Nat}{tpos:Pos}(c:Bool)(l m z a b i j:Addr)(D:ZipApart z a b i j l m) :
  Turn P w K (.Tuple es kk tpos) (Itz c K l m) [z,a,b,i,j] z (λ n h=>ZK c c h z a b i j l m n) where
 mem:=by simp
 obj:=λ n h st d hd=>by
  obtain⟨hz,hTI,⟨p1,p2,hTO⟩,h1,h2⟩:=st
  simp only[List.mem_cons,List.not_mem_nil,or_false]at hd
  rcases hd with rfl|rfl|rfl|rfl|rfl
  ·exact⟨_,hz,λ v e=>nomatch e⟩
  ·exact⟨_,hTI,λ v e=>nomatch e⟩
  ·exact⟨_,hTO,λ v e=>nomatch e⟩
  ·exact h1.obj
  ·exact h2.obj
 keep:=λ n h h' st k=>by
  obtain⟨hz,hTI,⟨p1,p2,hTO⟩,h1,h2⟩:=st
  exact⟨k z (by simp) _ hz,k a (by simp) _ hTI,⟨p1,p2,k b (by simp) _ hTO⟩,h1.at λ o e=>k i (by simp) o e,h2.at λ o e=>k j (by simp) o e⟩
 item:=by
  intro X hP hw hK hc n pins s σ H E I hf st hg
  subst hP hw hK
  obtain⟨xs,ys,x,y,hq1,hq2,hx,hy⟩:=hg
  obtain⟨its1,r1,p1⟩:=I.sqK hq1
  obtain⟨its2,r2,p2⟩:=I.sqK hq2
  obtain⟨u1,e1,ru1⟩:=r1.get hx
  obtain⟨u2,e2,ru2⟩:=r2.get hy
  refine zK_item D st p1 p2 (by simpa using e1) (by simpa using e2) λ h' z1 a1 b1 i1 j1 T1 kp=>?_
  refine⟨_,rfl,wpAny_letOwnedTupleGo_zip (s:={ s with heap:=h' }) z1 λ h2 z2 t2=>?_⟩
  have hTn:H s.heap.objs.size=none:=I.hok.fresh (Nat.le_refl _)
  have zT:s.heap.objs.size≠z:=Nat.ne_of_gt (Heap.lt_size (show s.heap.get? z=some _ from st.zz))
  have kp2:∀ d o,d∉[z,a,b,i,j]->s.heap.get? d=some o->h2.get? d=some o:=λ d o hd e=>by
   simp only[List.mem_cons,List.not_mem_nil,or_false,not_or]at hd
   exact t2.extBut _ _ hd.1 (kp d o hd.1 hd.2.2.1 hd.2.2.2.1 hd.2.2.2.2 e)
  have T2:IsPair h2 s.heap.objs.size u1 u2:=t2.extBut _ _ zT T1
  have nfp:∀ d o,H d=some o->d∉[z,a,b,i,j]:=λ d o e hd=>by rw[(hf d hd).1]at e;cases e
  have nT:∀ d o,H d=some o->d≠s.heap.objs.size:=λ d o e q=>by rw[q,hTn]at e;cases e
  have newOk:HOk X.prog X.w (upd H s.heap.objs.size (.tup [x,y])) h2:=by
   intro d o e
   by_cases hd:d=s.heap.objs.size
   ·subst hd
    rw[upd_same]at e
    cases e
    exact⟨by show 2<=sizeLine;decide,[u1,u2],.cons ru1 (.cons ru2 .nil),_,T2,rfl,0,rfl⟩
   ·rw[upd_ne hd]at e
    refine(I.hok d o e).stay (λ q v hq r=>kp2 q v ?_ r) (λ q r=>by rw[upd_ne (nT q _ r)];exact r) (λ q xs' r=>by rw[upd_ne (nT q _ r)];exact r)
    rcases hq with rfl|hq
    ·exact nfp _ _ e
    ·exact nfp _ _ hq
  have I2:Inv X pins σ (upd H s.heap.objs.size (.tup [x,y])) { s with heap:=h2 }:=by
   refine I.step (g':=s.gens) (d':=s.drawn) (t':=s.toks) (ch:=[z,a,b,i,j]) (λ d hd=>⟨(hf d hd).2.2.2.1,(hf d hd).2.1,(hf d hd).2.2.2.2.1,(hf d hd).2.2.2.2.2⟩) (λ d o _ _ hd e _=>kp2 d o hd e) (λ d o _ _ hd e _=>⟨o.slots,kp2 d o hd e⟩)
    (λ d o hd e nn=>by rw[upd_ne (Nat.ne_of_lt (Heap.lt_size e))];exact nn) (λ d o hd e=>⟨o,kp2 d o hd e⟩) (λ d xs' e=>by rw[upd_ne (nT d _ e)];exact e) (λ d o u e=>by rw[upd_ne (nT d _ e)];exact e)
    (λ d ps e=>⟨#[],by rw[upd_ne (nT d _ e),e];simp⟩) (λ mm hm=>?_) newOk I.bare
   obtain⟨o,es',ep,ho,r⟩:=hm
   exact⟨o,es',ep,kp2 _ o (λ hd=>(hf _ hd).2.1 rfl) ho,r⟩
  refine⟨.ref s.heap.objs.size,_,I2,rfl,⟨_,x,y,rfl,hTn,rfl,λ xs' ys' k1 k2=>?_⟩,?_,λ d hd=>?_⟩
  ·rw[I.sqK_inj k1 hq1,I.sqK_inj k2 hq2]
   exact⟨hx,hy⟩
  ·exact⟨z2,t2.extBut _ _ D.TIz a1,⟨_,_,t2.extBut _ _ D.TOz b1⟩,i1.at λ o e=>t2.extBut _ _ D.i1z e,j1.at λ o e=>t2.extBut _ _ D.i2z e⟩
  ·have hdn:d≠s.heap.objs.size:=by
    rintro rfl
    have lt:∀ {q:Addr}{o:Obj},s.heap.get? q=some o->s.heap.objs.size≠q:=λ e=>Nat.ne_of_gt (Heap.lt_size e)
    simp only[List.mem_cons,List.not_mem_nil,or_false]at hd
    obtain⟨o1,g1,_⟩:=st.i1.obj
    obtain⟨o2,g2,_⟩:=st.i2.obj
    obtain⟨y1,y2,g3⟩:=st.out
    rcases hd with q|q|q|q|q
    ·exact lt st.zz q
    ·exact lt st.ins q
    ·exact lt g3 q
    ·exact lt g1 q
    ·exact lt g2 q
   rw[upd_ne hdn]
   exact(hf d hd).1
 done:=by
  intro X hP hw hK hc n pins s σ H E I hf st hg
  subst hP hw hK
  obtain⟨xs,ys,hq1,hq2,hx⟩:=hg
  obtain⟨its1,r1,p1⟩:=I.sqK hq1
  obtain⟨its2,r2,p2⟩:=I.sqK hq2
  have n1:=r1.length
  have n2:=r2.length
  refine zK_end (I.ok.hd hc) D st p1 p2 (hx.elim (λ q=>.inl (by simp;omega)) λ q=>.inr (by simp;omega)) λ h' kp=>⟨rfl,?_⟩
  have kp2:∀ d o,d∉[z,a,b,i,j]->s.heap.get? d=some o->h'.get? d=some o:=λ d o hd e=>by
   simp only[List.mem_cons,List.not_mem_nil,or_false,not_or]at hd
   exact kp d o hd.1 hd.2.2.1 hd.2.2.2.1 hd.2.2.2.2 e
  have nfp:∀ d o,H d=some o->d∉[z,a,b,i,j]:=λ d o e hd=>by rw[(hf d hd).1]at e;cases e
  have there:∀ d o,s.heap.get? d=some o->d∉[z,a,b,i,j]->∃ o',h'.get? d=some o':=λ d o e hd=>⟨o,kp2 d o hd e⟩
  refine I.step (g':=s.gens) (d':=s.drawn) (t':=s.toks) (ch:=[z,a,b,i,j]) (λ d hd=>⟨(hf d hd).2.2.2.1,(hf d hd).2.1,(hf d hd).2.2.2.2.1,(hf d hd).2.2.2.2.2⟩) (λ d o _ _ hd e _=>kp2 d o hd e) (λ d o _ _ hd e _=>⟨o.slots,kp2 d o hd e⟩)
   (λ d o hd e nn=>nn) (λ d o hd e=>⟨o,kp2 d o hd e⟩) (λ d xs' e=>e) (λ d o u e=>e) (λ d ps e=>⟨#[],by rw[e];simp⟩) (λ mm hm=>?_) (λ d o e=>?_) I.bare
  ·obtain⟨o,es',ep,ho,r⟩:=hm
   exact⟨o,es',ep,kp2 _ o (λ hd=>(hf _ hd).2.1 rfl) ho,r⟩
  ·refine(I.hok d o e).stay (λ q v hq r=>kp2 q v ?_ r) (λ _ r=>r) (λ _ _ r=>r)
   rcases hq with rfl|hq
   ·exact nfp _ _ e
   ·exact nfp _ _ hq
 self:=λ _ _ _ _ _ st h=>wpAny_pyIter_zip st.zz h
def iZip (K:PySem.W.Frag)(t:TA):TI:=λ σ H R=>t σ H λ vs H2=>∃ (c:Bool) (a b:Addr),vs=[.ref a,.ref b]/\(∃ xs,SqK c K H2 a xs)/\(∃ ys,SqK c K H2 b ys)/\R (Itz c K a b) H2
theorem pi_zip {X:Cx}{es:List Expr}{kk:Nat}{tpos:Pos}{e1 e2:Expr}{ta tb:TE}{p pos:Pos}(hg:Gl X "zip")(hm:X.mg "zip"=none)(h1:PE X e1 ta)(h2:PE X e2 tb)
  (hs:starEach [e1,e2] X.env=(false,eval e1 X.env) :: starEach [e2] X.env:=by rfl) (hs2:starEach [e2] X.env=[(false,eval e2 X.env)]:=by rfl) (hpl:(backTo pos (starEach [e2] X.env)).any (·.1)=false:=by rfl) :
  PI X (.Tuple es kk tpos) (.Call (.Name "zip" p) [e1,e2] [] pos) (iZip X.K (tCons ta (tCons tb tNil))):=by
 intro pins s σ H R I h
 refine wpAny_Call_Name_kw (ld_blt I hg hm PyProof.Rows.boot_zip ?_)
 refine PyProof.Rows.callWith_type1 (thn ((pa_cons h1 (pa_cons h2 pa_nil hs2) hs) pos pins s σ H _ I h) λ us s1 ⟨vs,H1,I1,r1,q1⟩=>?_) hs hpl
 obtain⟨c,a,b,rfl,⟨xs,hx⟩,⟨ys,hy⟩,q⟩:=q1
 obtain⟨u1,u2,rfl,ru1,ru2⟩:=vals2 r1
 cases ru1
 cases ru2
 obtain⟨its1,_,p1⟩:=I1.sqK hx
 obtain⟨its2,_,p2⟩:=I1.sqK hy
 have a1:a < s1.heap.objs.size:=by
  cases c with
  | true=>obtain⟨_,e,_⟩:=(show s1.heap.IsTuple a _ from p1);exact Heap.lt_size e
  | false=>obtain⟨_,e,_⟩:=(show s1.heap.IsList a _ from p1);exact Heap.lt_size e
 have a2:b < s1.heap.objs.size:=by
  cases c with
  | true=>obtain⟨_,e,_⟩:=(show s1.heap.IsTuple b _ from p2);exact Heap.lt_size e
  | false=>obtain⟨_,e,_⟩:=(show s1.heap.IsList b _ from p2);exact Heap.lt_size e
 refine zip_made p1 p2 λ h' Z kp=>?_
 refine wpAny_pyIter_zip (s:={ s1 with heap:=h' }) Z.zz ?_
 refine⟨_,_,_,_,H1,rfl,I1.kept (t':=s1.toks) kp,turn_zip c a b _ _ _ _ _ (zipApart_new a1 a2),Z,λ d hd=>?_,q⟩
 have hle:s1.heap.objs.size<=d:=by
  simp only[List.mem_cons,List.not_mem_nil,or_false]at hd
  rcases hd with rfl|rfl|rfl|rfl|rfl
  ·exact Nat.le_add_right _ _
  ·exact Nat.le_add_right _ _
  ·exact Nat.le_add_right _ _
  ·exact Nat.le_refl _
  ·exact Nat.le_add_right _ _
 exact I1.fpOk hle (I1.hok.fresh hle)
end L2
namespace L2
open PySem PySem.Spec PyProof.Rows
end L2
namespace L2
open PySem PySem.Spec PyProof.Rows
end L2
namespace L2
open PySem PySem.Spec PyProof.Rows
theorem rev_idx {α:Type}(l:List α):(List.range l.length).filterMap (λ k=>l[l.length - 1 - k]?)=l.reverse:=by
 have hm:∀ n,n<=l.length->(List.range n).filterMap (λ k=>l[l.length - 1 - k]?)=l.reverse.take n:=by
  intro n
  induction n with
  | zero=>intro _;rfl
  | succ n ih=>
   intro hn
   rw[List.range_succ,List.filterMap_append,ih (by omega),List.take_succ]
   congr 1
   rw[List.getElem?_reverse (by omega),List.getElem?_eq_getElem (show l.length - 1 - n < l.length by omega)]
   simp[show l.length - 1 - n < l.length by omega]
 rw[hm _ (Nat.le_refl _),List.take_of_length_le (by rw[List.length_reverse];exact Nat.le_refl _)]
theorem Vals.rev:∀ {xs:List V}{us:List Value},Vals xs us->Vals xs.reverse us.reverse
 | _,_,.nil=>.nil
 | _,_,.cons r t=>by
  rw[List.reverse_cons,List.reverse_cons]
  exact Vals.append (Vals.rev t) (.cons r .nil)
end L2
namespace L2
open PySem PySem.Spec PyProof.Rows
open PySem.Builtin.Str in
def rSplit:V->List V->Hp->VK->Prop:=λ x vs H Q=>∃ t sep,x=.str t/\vs=[.str sep]/\(decide (t.length < sep.length) || decide (strKind t < strKind sep))=false/\(sep.length == 0)=false/\(occurrences t sep 0 t.length (t.length+1)).isEmpty=false/\t.length<=1000/\
 (partsBetween t (occurrences t sep 0 t.length (t.length+1)) sep.length).length<=1000/\∀ l,H l=none->Q (.ref l) (upd H l (.lst ((partsBetween t (occurrences t sep 0 t.length (t.length+1)) sep.length).map V.str)))
theorem vals_strsFrom:∀ (n:Nat)(l:List Str),Vals (l.map V.str) (strsFrom n l)
 | _,[]=>.nil
 | n,x :: r=>.cons ⟨n,rfl⟩ (vals_strsFrom (n+1) r)
theorem mt_split {X:Cx}:MtR X "str.split" rSplit:=by
 intro pins s σ H x vs v us Q I rx rv h
 obtain⟨t,sep,rfl,rfl,h1,hy,hf,hz,hn,q⟩:=h
 obtain⟨tk,rfl⟩:=rx
 obtain⟨u,rfl,ru⟩:=rv.one
 obtain⟨tk2,rfl⟩:=ru
 refine call_meets F.slot_str_split ((tyV_is (T:="str") (x:=.str t) I ⟨tk,rfl⟩ rfl).1) F.entry_str_split (F.args_str_split_2 _ _) (meets_str_split_sep t sep tk tk2 h1 hy hf (Nat.le_of_lt (small1000 hz)) (Nat.le_of_lt (small1000 hn))) ?_
 refine⟨.ref s.heap.objs.size,_,I.lnew (t':=_) (vals_strsFrom s.toks _) ?_,rfl,q _ I.fresh⟩
 rw[List.length_map]
 exact Nat.le_of_lt (small1000 hn)
def rCount:V->List V->Hp->VK->Prop:=λ x vs H Q=>∃ l xs y,x=.ref l/\vs=[y]/\H l=some (.lst xs)/\flatV y=true/\xs.all flatV=true/\Q (.int ((xs.countP λ z=>eqV z y:Nat):Int)) H
theorem count_eqU {x:V}:∀ {xs:List V}{us:List Value},Vals xs us->xs.all flatV=true->us.countP (eqU x)=xs.countP λ z=>eqV z x
 | _,_,.nil,_=>rfl
 | y :: xs,u :: us,.cons r t,f=>by
  rw[List.all_cons,Bool.and_eq_true]at f
  rw[List.countP_cons,List.countP_cons,count_eqU t f.2,eqU_of r f.1]
theorem mt_count {X:Cx}:MtR X "list.count" rCount:=by
 intro pins s σ H x vs v us Q I rx rv h
 obtain⟨l,xs,y,rfl,rfl,hH,fy,fx,q⟩:=h
 cases rx
 obtain⟨u,rfl,ru⟩:=rv.one
 obtain⟨z,its,n,r,hl,e⟩:=I.lstM hH
 refine call_meets F.slot_list_count ⟨_,e,rfl⟩ F.entry_list_count (F.args_list_count_2 _ _) (SeqAt.list_countAt l its.toArray n none #[] u (eqU y)) ⟨e,λ w hw=>mem_eqAt ru fy r fx w (by simpa using hw),?_⟩
 refine⟨.int _,H,I.tok _,⟨_,rfl⟩,?_⟩
 rw[show its.toArray.toList=its from rfl,count_eqU r fx]
 exact q
theorem pe_bmK {X:Cx}{K:PySem.W.Frag}{o e:Expr}{es:List Expr}{to:TE}{t:TA}{name:Str}{apos cpos:Pos}{T id:String}{r:V->List V->Hp->VK->Prop}(hK:X.K=K)(pa:PlainAttrs T)(slot:Slot T name id)(hty:typeOf (.builtin id)=pure (.type "method_descriptor")) (hm:MtR X id r)(ho:PE X o to)(ha:PA X (e :: es) t)
  (hbase:attributeBase o name X.env (eval o X.env)=eval o X.env:=by rfl)
  (hfew:((backTo cpos (starEach (e :: es) X.env)).all (λ x=>!x.1) && (backToKw cpos (keywordEach [] X.env)).all (λ x=>x.1.isSome)
   && decide ((e :: es).length+([]:List Keyword).length+(if ([]:List Keyword).isEmpty then 0 else 1) < 30))=true:=by rfl)
  (hline:(apos.endLine == cpos.line)=true:=by rfl) (hs:starEach (e :: es) X.env=(false,eval e X.env) :: starEach es X.env:=by rfl) (hplain:(backTo cpos (starEach es X.env)).any (·.1)=false:=by rfl) :
  PE X (.Call (.Attribute o name apos) (e :: es) [] cpos) (tBM K T r to t):=by subst hK;exact pe_bm pa slot hty hm ho ha hbase hfew hline hs hplain
theorem ix_ok {n:Nat}{i:Int}(h0:0<=i)(h1:i < n):seqIndex? i n=some i.toNat:=by
 have:ixN n i=some i.toNat:=by
  unfold ixN
  rw[if_pos h0,if_pos h1]
 exact(ixN_seq this).1
end L2
namespace HT
open PySem PyProof.Rows
section
variable {prog:Program}{w:World}{A:Around}{E:Value->Shared->Prop}{s:Shared}
theorem getItem_tuple_whole {t sl:Addr}{items:Array Value}{vl vu:Value}{lo hi:Option Int}{Q:Value->Shared->Prop}(ht:IsTup s.heap t items)(hs:s.heap.IsSliceOf sl vl vu .none)(pl:IsPart vl lo)(pu:IsPart vu hi)
  (h1:sIx items.size 0 lo=0) (h2:sIx items.size items.size hi=items.size) (h:Q (.ref t) s):wpAny (model prog w) A (getItem (.ref t) (.ref sl)) Q E s:=by
 obtain⟨os,hos,hcs,hds⟩:=id hs
 have hTs:s.TypeIs (.ref sl) "slice":=⟨os,hos,hcs⟩
 unfold getItem
 try with_reducible refine wpAny_holding ?_
 first|refine wpAny_bind (wpAny_pure ?_)|skip
 refine wpAny_bind (wpAny_sequenceKey ht.typeIs (by decide) ?_)
 refine wpAny_bind (wpAny_callSpecial?_slot (name:=Str.ofString "__getitem__") ht.typeIs PyProof.Rows.slot_tuple_getitem
  (wpAny_call_entry PyProof.Rows.slot_tuple_getitem ht.typeIs entry_tuple_getitem ?_ (args_tuple_getitem _ _)))
 show wpAny _ _ (Builtin.Tuple.tupleItemsOf (.ref t) >>= _) _ _ s
 refine wpAny_bind (tupleItemsOf_ ht ?_)
 refine wpAny_bind (wpAny_typeOf hTs ?_)
 rw[if_pos (by decide)]
 refine wpAny_bind (sliceApplied_gen hs pl pu ?_)
 have hyes:((((sIx items.size 0 lo:Nat):Int) == 0 && (1:Int) == 1 && (sIx items.size items.size hi - sIx items.size 0 lo) == items.size)=true):=by
  rw[h1,h2];simp
 show wpAny _ _ (if (((sIx items.size 0 lo:Nat):Int) == 0 && (1:Int) == 1 && (sIx items.size items.size hi - sIx items.size 0 lo) == items.size)=true then _ else _) _ _ s
 rw[if_pos hyes]
 unfold Builtin.Tuple.tupleIsExact
 refine wpAny_bind (wpAny_bind (wpAny_typeOf ht.typeIs (wpAny_pure ?_)))
 rw[if_pos (by decide)]
 first
  | exact wpAny_bind (wpAny_rule (wpAny_pure ⟨_,rfl,wpAny_pure h⟩))
  | exact wpAny_bind (wpAny_rule (wpAny_bind (wpAny_pure (wpAny_pure ⟨_,rfl,wpAny_pure h⟩))))
end
end HT
namespace L2
open PySem PySem.Spec PyProof.Rows
theorem op_isnotB {X:Cx}:OpR X (compareOp .IsNot) (λ x y H Q=>∃ a b,x=.bl a/\y=.bl b/\Q (.bl (a != b)) H):=by
 intro pins s σ H x y v u Q I rx ry h
 obtain⟨a,b,rfl,rfl,q⟩:=h
 cases (show v=Value.bool a from rx)
 cases (show u=Value.bool b from ry)
 exact isnot_bool ⟨.bl _,H,I,rfl,q⟩
def rCatT2 (K:PySem.W.Frag):R2:=λ x y H Q=>∃ a b xs ys,x=.ref a/\y=.ref b/\SqT K H a xs/\SqT K H b ys/\ys≠[]/\xs.length+ys.length<=sizeLine/\
 (xs=[]->Q (.ref b) H)/\(xs≠[]->∀ p,H p=none->Q (.ref p) (upd H p (.tup (xs++ys))))
theorem op_catT2 {X:Cx}:OpR X (binaryOp .Add) (rCatT2 X.K):=by
 intro pins s σ H x y v u Q I rx ry h
 obtain⟨a,b,xs,ys,rfl,rfl,ha,hb,hy,hz,q1,q2⟩:=h
 by_cases hx:xs=[]
 ·cases rx
  cases ry
  obtain⟨its,r1,p1,_⟩:=I.tuple ha
  obtain⟨its2,r2,p2,_⟩:=I.tuple hb
  obtain⟨⟨cls,dd,data,sl⟩,ho,hc,n,hd⟩:=id p1
  obtain⟨⟨cls2,dd2,data2,sl2⟩,ho2,hc2,n2,hd2⟩:=id p2
  simp only at hc hd hc2 hd2
  subst hc hd hc2 hd2
  have he:its=[]:=r1.nil_iff.mpr hx
  exact concat_meets ⟨_,ho,rfl⟩ ⟨_,ho2,rfl⟩ noFill_tuple_add seq_tuple_add PySem.F.slot_tuple_add PySem.F.entry_tuple_add (PySem.F.args_tuple_add_2 _ _)
   (tuple_addW0 a b its.toArray its2.toArray n n2 dd dd2 sl sl2 (by simp[he])) ⟨ho,ho2,⟨.ref b,H,I,rfl,q1 hx⟩⟩
 ·exact op_catT pins s σ H (.ref a) (.ref b) v u Q I rx ry ⟨a,b,xs,ys,rfl,rfl,ha,hb,hx,hz,λ z=>absurd z hy,λ _=>q2 hx⟩
def rSlT2 (K:PySem.W.Frag):V->Option Int->Option Int->Hp->VK->Prop:=λ x lo hi H Q=>∃ a xs,x=.ref a/\SqT K H a xs/\
 ((HT.sIx xs.length 0 lo=0/\HT.sIx xs.length xs.length hi=xs.length)->Q (.ref a) H)/\(¬ (HT.sIx xs.length 0 lo=0/\HT.sIx xs.length xs.length hi=xs.length)->∀ p,H p=none->Q (.ref p) (upd H p (.tup (cutV xs lo hi))))
theorem sl_tup2 {X:Cx}:SlR X (rSlT2 X.K):=by
 intro pins s σ H x v vl vu lo hi sl Q I rx hs pl pu h
 obtain⟨a,xs,rfl,hx,q1,q2⟩:=h
 by_cases hw:HT.sIx xs.length 0 lo=0/\HT.sIx xs.length xs.length hi=xs.length
 ·cases rx
  obtain⟨its,r,ht,hz⟩:=I.tuple hx
  have hlen:its.toArray.size=xs.length:=by rw[List.size_toArray];exact r.length.symm
  refine⟨"tuple",_,PyProof.Rows.slot_tuple_getitem.lookup,ht.typeIs,?_⟩
  exact HT.getItem_tuple_whole ht hs pl pu (by rw[hlen];exact hw.1) (by rw[hlen];exact hw.2) ⟨.ref a,H,I,rfl,q1 hw⟩
 ·exact sl_tup pins s σ H (.ref a) v vl vu lo hi sl Q I rx hs pl pu ⟨a,xs,rfl,hx,hw,q2 hw⟩
end L2
namespace L2
open PySem PySem.Spec PyProof.Rows
end L2
namespace L2
open PySem PySem.Spec PySem.W PyProof.Rows
section
variable {prog:Program}{w:World}{A:Around}{E:Value->Shared->Prop}{s:Shared}{K:PySem.W.Frag}{x C:Addr}{ox:Obj}{od:Option Obj}{name:Str}
end
end L2
namespace L2
open PySem PySem.Spec PySem.W PyProof.Rows
section
variable {K:PySem.W.Frag}{C:Addr}{nm:Str}{bm:List Value}{ini:Option Value}
end
def xcO (C e:Addr):HO:=.ext λ h=>∃ ox:Obj,h.get? e=some ox/\ox.cls=.ref C/\notCls ox=true/\ox.dict=none
section
variable {X:Cx}{pins:List (Addr × Obj)}{σ:St}{H:Hp}{s:Shared}{h':Heap}{a:Addr}{o:HO}
end
end L2
namespace L2
open PySem PySem.Spec PyProof.Rows
theorem strs_of_vals:∀ {ss:List Str}{us:List Value},Vals (ss.map V.str) us->∃ l:List (Str × Tok),strValues l=us/\l.map (·.1)=ss
 | [],_,.nil=>⟨[],rfl,rfl⟩
 | x :: r,_,.cons ⟨t,e⟩ h=>by
  obtain⟨l,h1,h2⟩:=strs_of_vals h
  subst e
  exact⟨(x,t) :: l,by rw[<-h1];rfl,by rw[List.map_cons,h2]⟩
end L2
namespace L2
open PySem PySem.Spec PyProof.Rows
end L2
namespace Mm
open PySem L2
inductive AV where
 | non|bl (b:Bool)|int (i:Int)|str (x:Str)|tup (xs:List AV)|ref (i:Nat)|sq (xs:List AV)
inductive AO where
 | lst (xs:List AV)|dK (kvs:List (Key × AV))|dT (kvs:List (List Key × AV))|ins (C:Nat) (fs:List (Str × AV))|exc (C:Nat)|tab (i:Nat) (q:Str)
abbrev S:=List AO
abbrev En:=List (Option AV)
structure AX where
 cls:Nat
 fs:List (Str × AV)
inductive R (α:Type) where
 | ok (a:α) (s:S)|ex (c:AX) (s:S)|bad
def R.bind {α β:Type}:R α->(α->S->R β)->R β
 | .ok a s,f=>f a s
 | .ex c s,_=>.ex c s
 | .bad,_=>.bad
inductive RS where
 | nx (e:En) (s:S)|rt (v:AV) (s:S)|bk (e:En) (s:S)|ct (e:En) (s:S)|ex (c:AX) (s:S)|bad
@[simp] theorem bind_ok {α β:Type}(a:α) (s:S) (f:α->S->R β):(R.ok a s).bind f=f a s:=rfl
@[simp] theorem bind_bad {α β:Type}(f:α->S->R β):(R.bad:R α).bind f=.bad:=rfl
structure Tx where
 K:PySem.W.Frag
 cl:Nat->Addr
def SqF (K:PySem.W.Frag)(H:Hp)(a:Addr)(xs:List V):Prop:=
 (∃ o,H a=some (.frz o (.lst xs)))∨∃ (o:Obj) (its:Array Value) (n:Nat),K.lookup a=some o/\o.cls=.type "list"/\o.dict=none/\o.data=.seq its n/\its.size<=sizeLine/\Vals xs its.toList
theorem SqF.sqL {K:PySem.W.Frag}{H:Hp}{a:Addr}{xs:List V}(h:SqF K H a xs):SqL K H a xs:=by
 rcases h with h|h
 ·exact .inl (.inr h)
 ·exact .inr h
mutual
def VR (T:Tx)(ρ:List Addr)(H:Hp):AV->V->Prop
 | .non,x=>x=.non
 | .bl b,x=>x=.bl b
 | .int i,x=>x=.int i
 | .str z,x=>x=.str z
 | .tup xs,x=>∃ a vs,x=.ref a/\SqT T.K H a vs/\VRs T ρ H xs vs
 | .ref i,x=>∃ a,ρ[i]? = some a/\x=.ref a
 | .sq xs,x=>∃ a vs,x=.ref a/\SqF T.K H a vs/\VRs T ρ H xs vs
def VRs (T:Tx)(ρ:List Addr)(H:Hp):List AV->List V->Prop
 | [],vs=>vs=[]
 | v :: r,vs=>∃ x ys,vs=x :: ys/\VR T ρ H v x/\VRs T ρ H r ys
end
structure Gr (ρ:List Addr)(H:Hp)(ρ':List Addr)(H':Hp):Prop where
 pre:ρ <+: ρ'
 tups:∀ b xs,H b=some (.tup xs)->H' b=some (.tup xs)
 frzs:∀ b o u,H b=some (.frz o u)->H' b=some (.frz o u)
structure Up (ρ:List Addr)(H:Hp)(ρ':List Addr)(H':Hp):Prop extends Gr ρ H ρ' H' where
 fr:∀ b o,H b=some o->b∉ρ->H' b=some o/\b∉ρ'
 live:∀ b,H' b=none->H b=none
theorem Up.refl {ρ:List Addr}{H:Hp}:Up ρ H ρ H:=⟨⟨List.prefix_rfl,λ _ _ h=>h,λ _ _ _ h=>h⟩,λ _ _ h n=>⟨h,n⟩,λ _ h=>h⟩
theorem Up.trans {ρ ρ1 ρ2:List Addr}{H H1 H2:Hp}(a:Up ρ H ρ1 H1)(b:Up ρ1 H1 ρ2 H2):Up ρ H ρ2 H2:=
 ⟨⟨a.pre.trans b.pre,λ c xs h=>b.tups c xs (a.tups c xs h),λ c o u h=>b.frzs c o u (a.frzs c o u h)⟩,λ c o h n=>let ⟨h1,n1⟩:=a.fr c o h n;b.fr c o h1 n1,λ c h=>a.live c (b.live c h)⟩
theorem Up.add {ρ ρ1:List Addr}{H H1:Hp}{p:Addr}(a:Up ρ H ρ1 H1)(h:H p=none):Up ρ H (ρ1++[p]) H1:=
 ⟨⟨a.pre.trans (List.prefix_append _ _),a.tups,a.frzs⟩,λ b o e n=>⟨(a.fr b o e n).1,λ z=>by
  rcases List.mem_append.mp z with z|z
  ·exact(a.fr b o e n).2 z
  ·rw[List.mem_singleton.mp z,h]at e;cases e⟩,a.live⟩
theorem pre_get {α:Type}{ρ ρ':List α}(h:ρ <+: ρ'){i:Nat}{a:α}(e:ρ[i]? = some a):ρ'[i]? = some a:=by
 obtain⟨t,rfl⟩:=h
 rw[List.getElem?_append_left]
 ·exact e
 ·exact(List.getElem?_eq_some_iff.mp e).1
theorem Gr.sqT {K:PySem.W.Frag}{ρ ρ':List Addr}{H H':Hp}(u:Gr ρ H ρ' H'){a:Addr}{vs:List V}(h:SqT K H a vs):SqT K H' a vs:=by
 rcases h with(h|⟨o,h⟩)|h
 ·exact .inl (.inl (u.tups _ _ h))
 ·exact .inl (.inr ⟨o,u.frzs _ _ _ h⟩)
 ·exact .inr h
theorem Gr.sqF {K:PySem.W.Frag}{ρ ρ':List Addr}{H H':Hp}(u:Gr ρ H ρ' H'){a:Addr}{vs:List V}(h:SqF K H a vs):SqF K H' a vs:=by
 rcases h with⟨o,h⟩|h
 ·exact .inl ⟨o,u.frzs _ _ _ h⟩
 ·exact .inr h
section
variable {T:Tx}{ρ ρ':List Addr}{H H':Hp}
mutual
theorem VR.gr (u:Gr ρ H ρ' H'):∀ {v:AV}{x:V},VR T ρ H v x->VR T ρ' H' v x
 | .non,_,h=>h
 | .bl _,_,h=>h
 | .int _,_,h=>h
 | .str _,_,h=>h
 | .ref _,_,h=>by
  unfold VR at *
  obtain⟨a,h,e⟩:=h
  exact⟨a,pre_get u.pre h,e⟩
 | .tup _,_,h=>by
  unfold VR at *
  obtain⟨a,vs,e,h1,h2⟩:=h
  exact⟨a,vs,e,u.sqT h1,VRs.gr u h2⟩
 | .sq _,_,h=>by
  unfold VR at *
  obtain⟨a,vs,e,h1,h2⟩:=h
  exact⟨a,vs,e,u.sqF h1,VRs.gr u h2⟩
theorem VRs.gr (u:Gr ρ H ρ' H'):∀ {l:List AV}{xs:List V},VRs T ρ H l xs->VRs T ρ' H' l xs
 | [],_,h=>h
 | _ :: _,_,h=>by
  unfold VRs at *
  obtain⟨x,ys,e,h1,h2⟩:=h
  exact⟨x,ys,e,VR.gr u h1,VRs.gr u h2⟩
end
theorem VR.up (u:Up ρ H ρ' H'){v:AV}{x:V}(h:VR T ρ H v x):VR T ρ' H' v x:=h.gr u.toGr
theorem VRs.up (u:Up ρ H ρ' H'){v:List AV}{x:List V}(h:VRs T ρ H v x):VRs T ρ' H' v x:=h.gr u.toGr
theorem VRs.length:∀ {l:List AV}{xs:List V},VRs T ρ H l xs->l.length=xs.length
 | [],_,h=>by unfold VRs at h;subst h;rfl
 | _ :: _,_,h=>by
  unfold VRs at h
  obtain⟨x,ys,rfl,_,h2⟩:=h
  simp[VRs.length h2]
theorem VRs.nil:VRs T ρ H [] []:=by unfold VRs;rfl
theorem VRs.cons {v:AV}{x:V}{l:List AV}{xs:List V}(h:VR T ρ H v x)(k:VRs T ρ H l xs):VRs T ρ H (v :: l) (x :: xs):=by
 unfold VRs
 exact⟨x,xs,rfl,h,k⟩
theorem VRs.nil_inv {xs:List V}(h:VRs T ρ H [] xs):xs=[]:=by unfold VRs at h;exact h
theorem VRs.cons_inv {v:AV}{l:List AV}{xs:List V}(h:VRs T ρ H (v :: l) xs):∃ x ys,xs=x :: ys/\VR T ρ H v x/\VRs T ρ H l ys:=by unfold VRs at h;exact h
theorem VRs.get:∀ {l:List AV}{xs:List V}{i:Nat}{v:AV},VRs T ρ H l xs->l[i]? = some v->∃ x,xs[i]? = some x/\VR T ρ H v x
 | [],_,_,_,_,e=>by simp at e
 | _ :: _,_,0,_,h,e=>by
  obtain⟨x,ys,rfl,h1,_⟩:=h.cons_inv
  simp at e;subst e
  exact⟨x,rfl,h1⟩
 | _ :: _,_,i+1,_,h,e=>by
  obtain⟨x,ys,rfl,_,h2⟩:=h.cons_inv
  exact VRs.get (i:=i) h2 (by simpa using e)
theorem VRs.append:∀ {l q:List AV}{xs ys:List V},VRs T ρ H l xs->VRs T ρ H q ys->VRs T ρ H (l++q) (xs++ys)
 | [],_,_,_,h,k=>by cases h.nil_inv;exact k
 | _ :: _,_,_,_,h,k=>by
  obtain⟨x,zs,rfl,h1,h2⟩:=h.cons_inv
  exact .cons h1 (VRs.append h2 k)
theorem VRs.one {v:AV}{x:V}(h:VR T ρ H v x):VRs T ρ H [v] [x]:=.cons h .nil
theorem VRs.set:∀ {l:List AV}{xs:List V}{v:AV}{x:V}(i:Nat),VRs T ρ H l xs->VR T ρ H v x->VRs T ρ H (l.set i v) (xs.set i x)
 | [],_,_,_,_,h,_=>by cases h.nil_inv;exact .nil
 | _ :: _,_,_,_,0,h,k=>by
  obtain⟨x,zs,rfl,h1,h2⟩:=h.cons_inv
  exact .cons k h2
 | _ :: _,_,_,_,i+1,h,k=>by
  obtain⟨x,zs,rfl,h1,h2⟩:=h.cons_inv
  exact .cons h1 (VRs.set i h2 k)
theorem VRs.drop:∀ {l:List AV}{xs:List V}(n:Nat),VRs T ρ H l xs->VRs T ρ H (l.drop n) (xs.drop n)
 | _,_,0,h=>h
 | [],_,_+1,h=>by cases h.nil_inv;exact .nil
 | _ :: _,_,n+1,h=>by
  obtain⟨x,zs,rfl,h1,h2⟩:=h.cons_inv
  exact VRs.drop n h2
theorem VRs.take:∀ {l:List AV}{xs:List V}(n:Nat),VRs T ρ H l xs->VRs T ρ H (l.take n) (xs.take n)
 | _,_,0,h=>.nil
 | [],_,_+1,h=>by cases h.nil_inv;exact .nil
 | _ :: _,_,n+1,h=>by
  obtain⟨x,zs,rfl,h1,h2⟩:=h.cons_inv
  exact .cons h1 (VRs.take n h2)
theorem VRs.reverse:∀ {l:List AV}{xs:List V},VRs T ρ H l xs->VRs T ρ H l.reverse xs.reverse
 | [],_,h=>by cases h.nil_inv;exact .nil
 | _ :: _,_,h=>by
  obtain⟨x,zs,rfl,h1,h2⟩:=h.cons_inv
  rw[List.reverse_cons,List.reverse_cons]
  exact(VRs.reverse h2).append (.one h1)
theorem VRs.map {α:Type}{f:α->AV}{g:α->V}(h:∀ a,VR T ρ H (f a) (g a)):∀ (l:List α),VRs T ρ H (l.map f) (l.map g)
 | []=>.nil
 | a :: r=>.cons (h a) (VRs.map h r)
theorem VRs.bls_inv:∀ {ns:List Bool}{xs:List V},VRs T ρ H (ns.map AV.bl) xs->xs=ns.map V.bl
 | [],_,h=>h.nil_inv
 | _ :: _,_,h=>by
  obtain⟨x,zs,rfl,h1,h2⟩:=h.cons_inv
  unfold VR at h1
  rw[h1,VRs.bls_inv h2];rfl
theorem vr_int {i:Int}:VR T ρ H (.int i) (.int i):=by unfold VR;rfl
theorem vr_bl {i:Bool}:VR T ρ H (.bl i) (.bl i):=by unfold VR;rfl
theorem vr_str {i:Str}:VR T ρ H (.str i) (.str i):=by unfold VR;rfl
theorem vr_non:VR T ρ H .non .non:=by unfold VR;rfl
theorem vr_ref {i:Nat}{a:Addr}(h:ρ[i]? = some a):VR T ρ H (.ref i) (.ref a):=by unfold VR;exact⟨a,h,rfl⟩
theorem vr_tup {xs:List AV}{a:Addr}{vs:List V}(h:SqT T.K H a vs)(k:VRs T ρ H xs vs):VR T ρ H (.tup xs) (.ref a):=by unfold VR;exact⟨a,vs,rfl,h,k⟩
theorem VR.tup_inv {xs:List AV}{x:V}(h:VR T ρ H (.tup xs) x):∃ a vs,x=.ref a/\SqT T.K H a vs/\VRs T ρ H xs vs:=by unfold VR at h;exact h
theorem VR.ref_inv {i:Nat}{x:V}(h:VR T ρ H (.ref i) x):∃ a,ρ[i]? = some a/\x=.ref a:=by unfold VR at h;exact h
theorem VR.sq_inv {xs:List AV}{x:V}(h:VR T ρ H (.sq xs) x):∃ a vs,x=.ref a/\SqF T.K H a vs/\VRs T ρ H xs vs:=by unfold VR at h;exact h
theorem VR.int_inv {i:Int}{x:V}(h:VR T ρ H (.int i) x):x=.int i:=by unfold VR at h;exact h
theorem VR.bl_inv {i:Bool}{x:V}(h:VR T ρ H (.bl i) x):x=.bl i:=by unfold VR at h;exact h
theorem VR.str_inv {i:Str}{x:V}(h:VR T ρ H (.str i) x):x=.str i:=by unfold VR at h;exact h
theorem VR.non_inv {x:V}(h:VR T ρ H .non x):x=.non:=by unfold VR at h;exact h
def TabOk (H:Hp)(q:Str)(ps:Array Value):Prop:=TriplesOk ps.toList/\∀ pos cv,codeAmong pos ps.toList=some cv->∃ c oc u vs t,cv=.ref c/\H c=some (.frz oc u)/\oc.data=.fields vs/\vs[1]? = some (.str q t)
def OR (T:Tx)(ρ:List Addr)(H:Hp):AO->Addr->Prop
 | .lst xs,a=>∃ vs,H a=some (.lst vs)/\VRs T ρ H xs vs
 | .dK kvs,a=>∃ ks:List (Key × V),H a=some (.dK ks)/\kvs.map (·.1)=ks.map (·.1)/\VRs T ρ H (kvs.map (·.2)) (ks.map (·.2))
 | .dT kvs,a=>∃ ks:List (List Key × V),H a=some (.dT ks)/\kvs.map (·.1)=ks.map (·.1)/\VRs T ρ H (kvs.map (·.2)) (ks.map (·.2))
 | .ins C fs,a=>∃ (dx:Addr) (ks:List (Str × V)),H a=some (.ins (T.cl C) dx ks)/\fs.map (·.1)=ks.map (·.1)/\VRs T ρ H (fs.map (·.2)) (ks.map (·.2))
 | .exc C,a=>H a=some (xcO (T.cl C) a)
 | .tab i q,a=>a=T.cl i/\∃ ps,H a=some (.tbl ps)/\TabOk H q ps
theorem OR.ex {o:AO}{a:Addr}(h:OR T ρ H o a):∃ u,H a=some u:=by
 cases o with
 | lst xs=>obtain⟨_,h,_⟩:=h;exact⟨_,h⟩
 | dK xs=>obtain⟨_,h,_⟩:=h;exact⟨_,h⟩
 | dT xs=>obtain⟨_,h,_⟩:=h;exact⟨_,h⟩
 | ins C xs=>obtain⟨_,_,h,_⟩:=h;exact⟨_,h⟩
 | exc C=>exact⟨_,h⟩
 | tab i q=>obtain⟨_,_,h,_⟩:=h;exact⟨_,h⟩
theorem OR.up {o:AO}{a:Addr}(u:Gr ρ H ρ' H')(e:H' a=H a)(h:OR T ρ H o a):OR T ρ' H' o a:=by
 cases o with
 | lst xs=>obtain⟨vs,h,k⟩:=h;exact⟨vs,e.trans h,k.gr u⟩
 | dK xs=>obtain⟨vs,h,q,k⟩:=h;exact⟨vs,e.trans h,q,k.gr u⟩
 | dT xs=>obtain⟨vs,h,q,k⟩:=h;exact⟨vs,e.trans h,q,k.gr u⟩
 | ins C xs=>obtain⟨dx,vs,h,q,k⟩:=h;exact⟨dx,vs,e.trans h,q,k.gr u⟩
 | exc C=>exact e.trans h
 | tab i q=>
  obtain⟨h1,ps,h2,h3,h4⟩:=h
  exact⟨h1,ps,e.trans h2,h3,λ pos cv z=>let ⟨c,oc,w,vs,t,k1,k2,k3⟩:=h4 pos cv z;⟨c,oc,w,vs,t,k1,u.frzs _ _ _ k2,k3⟩⟩
end
structure SR (T:Tx)(ρ:List Addr)(s:S)(H:Hp):Prop where
 nd:ρ.Nodup
 len:ρ.length=s.length
 obj:∀ (i:Nat) (o:AO),s[i]? = some o->∃ a,ρ[i]? = some a/\OR T ρ H o a
section
variable {T:Tx}{ρ ρ':List Addr}{s:S}{H H':Hp}
theorem SR.in (h:SR T ρ s H){a:Addr}(ha:a∈ρ):∃ u,H a=some u:=by
 obtain⟨i,hi,e⟩:=List.getElem_of_mem ha
 have hi2:i < s.length:=by rw[<-h.len];exact hi
 obtain⟨b,e2,q⟩:=h.obj i s[i] (List.getElem?_eq_getElem hi2)
 rw[List.getElem?_eq_getElem hi]at e2
 cases e2
 rw[e]at q
 exact q.ex
theorem SR.out (h:SR T ρ s H){a:Addr}(ha:H a=none):a∉ρ:=λ z=>by
 obtain⟨u,e⟩:=h.in z
 rw[ha]at e;cases e
theorem SR.upNew (h:SR T ρ s H){p:Addr}{o:HO}(hp:H p=none):Up ρ H ρ (upd H p o):=
 ⟨⟨List.prefix_rfl,λ b xs e=>by rw[upd_ne (ne_of_none e hp)];exact e,λ b o u e=>by rw[upd_ne (ne_of_none e hp)];exact e⟩,λ b u e n=>⟨by rw[upd_ne (ne_of_none e hp)];exact e,n⟩,λ b e=>by
  by_cases hb:b=p
  ·rw[hb];exact hp
  ·rw[upd_ne hb]at e;exact e⟩
theorem SR.up (h:SR T ρ s H)(u:Gr ρ H ρ H')(k:∀ a∈ρ,H' a=H a):SR T ρ s H':=
 ⟨h.nd,h.len,λ i o e=>by
  obtain⟨a,e1,q⟩:=h.obj i o e
  exact⟨a,e1,q.up u (k a (List.mem_of_getElem? e1))⟩⟩
theorem SR.new (h:SR T ρ s H){p:Addr}{o:HO}(hp:H p=none):SR T ρ s (upd H p o):=
 h.up (h.upNew hp).toGr λ a ha=>upd_ne λ e=>h.out hp (e ▸ ha)
theorem SR.add (h:SR T ρ s H){p:Addr}{o:AO}(hp:p∉ρ)(k:OR T (ρ++[p]) H o p):SR T (ρ++[p]) (s++[o]) H:=by
 refine⟨List.nodup_append.mpr ⟨h.nd,by simp,λ a ha b hb e=>hp (by rw[List.mem_singleton.mp hb]at e;exact e ▸ ha)⟩,by simp[h.len],λ i q e=>?_⟩
 by_cases hi:i < s.length
 ·rw[List.getElem?_append_left hi]at e
  obtain⟨a,e1,q1⟩:=h.obj i q e
  refine⟨a,by rw[List.getElem?_append_left (by rw[h.len];exact hi)];exact e1,?_⟩
  exact q1.up ⟨List.prefix_append _ _,λ _ _ e=>e,λ _ _ _ e=>e⟩ rfl
 ·rw[List.getElem?_append_right (by omega)]at e
  have hz:i - s.length=0:=by
   have:=(List.getElem?_eq_some_iff.mp e).1
   simp at this;omega
  rw[hz]at e
  cases e
  exact⟨p,by rw[List.getElem?_append_right (by rw[h.len];omega),h.len,hz];rfl,k⟩
end
structure Rl (α β:Type) where
 r:Hp->List Addr->Hp->α->β->Prop
 anti:∀ {H H1:Hp}{ρ:List Addr}{H':Hp}{v:α}{x:β},(∀ b,H1 b=none->H b=none)->r H1 ρ H' v x->r H ρ H' v x
abbrev XEt:=AX->List Addr->S->Hp->Prop
def Out {α β:Type}(T:Tx)(XE:XEt)(rl:Rl α β)(ρ:List Addr)(H:Hp):R α->(β->Hp->Prop)->Prop
 | .ok v s,Q=>∀ ρ' H' x,Up ρ H ρ' H'->SR T ρ' s H'->rl.r H ρ' H' v x->Q x H'
 | .ex c s,_=>∀ ρ' H',Up ρ H ρ' H'->SR T ρ' s H'->XE c ρ' s H'
 | .bad,_=>False
theorem Out.up {α β:Type}{T:Tx}{XE:XEt}{rl:Rl α β}{ρ ρ':List Addr}{H H':Hp}{r:R α}{Q:β->Hp->Prop}(u:Up ρ H ρ' H')(h:Out T XE rl ρ H r Q):Out T XE rl ρ' H' r Q:=by
 cases r with
 | ok v s=>exact λ ρ2 H2 x u2 sr vr=>h ρ2 H2 x (u.trans u2) sr (rl.anti u.live vr)
 | ex c s=>exact λ ρ2 H2 u2 sr=>h ρ2 H2 (u.trans u2) sr
 | bad=>exact h
structure ER (T:Tx)(ρ:List Addr)(H:Hp)(env:En)(σ:St):Prop where
 len:env.length=σ.length
 get:∀ (i:Nat) (v:AV),env[i]? = some (some v)->∃ x,σ[i]? = some (some x)/\VR T ρ H v x
theorem ER.up {T:Tx}{ρ ρ':List Addr}{H H':Hp}{env:En}{σ:St}(u:Up ρ H ρ' H')(h:ER T ρ H env σ):ER T ρ' H' env σ:=
 ⟨h.len,λ i v e=>let ⟨x,e1,q⟩:=h.get i v e;⟨x,e1,q.up u⟩⟩
theorem ER.set {T:Tx}{ρ:List Addr}{H:Hp}{env:En}{σ:St}(h:ER T ρ H env σ){i:Nat}{v:AV}{x:V}(k:VR T ρ H v x):ER T ρ H (env.set i (some v)) (σ.set i (some x)):=by
 refine⟨by simp[h.len],λ j w e=>?_⟩
 by_cases hij:i=j
 ·subst hij
  have hl:i < env.length:=by
   have:=(List.getElem?_eq_some_iff.mp e).1
   simpa using this
  rw[List.getElem?_set_self hl]at e
  cases e
  exact⟨x,by rw[List.getElem?_set_self (by rw[<-h.len];exact hl)],k⟩
 ·rw[List.getElem?_set_ne hij]at e ⊢
  exact h.get j w e
def tG {α β:Type}(T:Tx)(XE:XEt)(rl:Rl α β)(m:En->S->R α):St->Hp->(β->Hp->Prop)->Prop:=λ σ H Q=>
 ∃ ρ env s,SR T ρ s H/\ER T ρ H env σ/\Out T XE rl ρ H (m env s) Q
theorem step {α β α' β':Type}{T:Tx}{XE:XEt}{rl:Rl α β}{rl2:Rl α' β'}{ρ:List Addr}{env:En}{s:S}{σ:St}{H:Hp}{m:En->S->R α}{k:α->S->R α'}{Q:β'->Hp->Prop}{F:β->Hp->Prop}
  (hs:SR T ρ s H) (he:ER T ρ H env σ) (ho:Out T XE rl2 ρ H ((m env s).bind k) Q)
  (hk:∀ v s1 ρ1 H1 x,m env s=.ok v s1->Up ρ H ρ1 H1->SR T ρ1 s1 H1->ER T ρ1 H1 env σ->rl.r H ρ1 H1 v x->Out T XE rl2 ρ1 H1 (k v s1) Q->F x H1):tG T XE rl m σ H F:=by
 refine⟨ρ,env,s,hs,he,?_⟩
 cases e:m env s with
 | ok v s1=>
  rw[e]at ho
  exact λ ρ1 H1 x u sr vr=>hk v s1 ρ1 H1 x e u sr (he.up u) vr (Out.up u ho)
 | ex c s1=>rw[e]at ho;exact ho
 | bad=>rw[e]at ho;exact ho
theorem Out.here {α β:Type}{T:Tx}{XE:XEt}{rl:Rl α β}{ρ:List Addr}{H:Hp}{v:α}{s:S}{Q:β->Hp->Prop}{x:β}(h:Out T XE rl ρ H (.ok v s) Q) (sr:SR T ρ s H)(r:rl.r H ρ H v x):Q x H:=h ρ H x .refl sr r
theorem PE.imp {X:Cx}{e:Expr}{t t':TE}(h:PE X e t)(k:∀ σ H Q,t' σ H Q->t σ H Q):PE X e t':=λ pins s σ H Q I hq=>h pins s σ H Q I (k σ H Q hq)
theorem PT.imp {X:Cx}{e:Expr}{t t':TT}(h:PT X e t)(k:∀ σ H Q,t' σ H Q->t σ H Q):PT X e t':=λ pins s σ H Q I hq=>h pins s σ H Q I (k σ H Q hq)
theorem PW.imp {X:Cx}{e:Expr}{t t':TT}(h:PW X e t)(k:∀ σ H Q,t' σ H Q->t σ H Q):PW X e t':=λ wh pins s σ H Q I hq=>h wh pins s σ H Q I (k σ H Q hq)
theorem PA.imp {X:Cx}{e:List Expr}{t t':TA}(h:PA X e t)(k:∀ σ H Q,t' σ H Q->t σ H Q):PA X e t':=λ pos pins s σ H Q I hq=>h pos pins s σ H Q I (k σ H Q hq)
theorem PS.imp {X:Cx}{e:Stmt}{t t':TS}(h:PS X e t)(k:∀ D σ H,t' D σ H->t D σ H):PS X e t':=λ pins s σ H Q I hq=>h pins s σ H Q I (k Q σ H hq)
theorem PSs.imp {X:Cx}{e:List Stmt}{t t':TS}(h:PSs X e t)(k:∀ D σ H,t' D σ H->t D σ H):PSs X e t':=λ pins s σ H Q I hq=>h pins s σ H Q I (k Q σ H hq)
theorem PI.imp {X:Cx}{tg e:Expr}{t t':TI}(h:PI X tg e t)(k:∀ σ H R,t' σ H R->t σ H R):PI X tg e t':=λ pins s σ H Q I hq=>h pins s σ H Q I (k σ H Q hq)
theorem PG.imp {X:Cx}{e:Expr}{t t':TG}(h:PG X e t)(k:∀ v σ H Q,t' v σ H Q->t v σ H Q):PG X e t':=λ pins s σ H v u Q I r hq=>h pins s σ H v u Q I r (k v σ H Q hq)
theorem PGs.imp {X:Cx}{e:List Expr}{t t':TGs}(h:PGs X e t)(k:∀ v σ H Q,t' v σ H Q->t v σ H Q):PGs X e t':=λ pins s σ H v u Q I r hq=>h pins s σ H v u Q I r (k v σ H Q hq)
end Mm
namespace Mm
open PySem L2
abbrev Ev:=En->S->R AV
abbrev Evs:=En->S->R (List AV)
abbrev Eb:=En->S->R Bool
structure Big (i:Int):Prop where
 f:Fit 60000000 i
structure Mid (i:Int):Prop where
 f:Fit 9000 i
noncomputable instance {i:Int}:Decidable (Big i):=Classical.propDecidable _
noncomputable instance {i:Int}:Decidable (Mid i):=Classical.propDecidable _
def rV (T:Tx):Rl AV V:=⟨λ _ ρ H v x=>VR T ρ H v x,λ _ h=>h⟩
def rA (T:Tx):Rl (List AV) (List V):=⟨λ _ ρ H v x=>VRs T ρ H v x,λ _ h=>h⟩
def rB:Rl Bool Bool:=⟨λ _ _ _ b c=>b=c,λ _ h=>h⟩
def rL (T:Tx):Rl (List AV) V:=⟨λ H₀ ρ H xs x=>∃ a vs,x=.ref a/\H₀ a=none/\a∉ρ/\H a=some (.lst vs)/\VRs T ρ H xs vs,λ k ⟨a,vs,e,h,r⟩=>⟨a,vs,e,k a h,r⟩⟩
def rQ (T:Tx):Rl (List AV) V:=⟨λ _ ρ H xs x=>∃ a vs,x=.ref a/\(SqL T.K H a vs∨SqT T.K H a vs)/\VRs T ρ H xs vs,λ _ h=>h⟩
theorem Out.hereV {T:Tx}{XE:XEt}{ρ:List Addr}{H:Hp}{v:AV}{s:S}{Q:VK}{x:V}(h:Out T XE (rV T) ρ H (.ok v s) Q) (sr:SR T ρ s H)(r:VR T ρ H v x):Q x H:=h ρ H x .refl sr r
abbrev tE (T:Tx)(XE:XEt)(m:Ev):TE:=tG T XE (rV T) m
abbrev tL (T:Tx)(XE:XEt)(m:Evs):TE:=tG T XE (rL T) m
abbrev tQ (T:Tx)(XE:XEt)(m:Evs):TE:=tG T XE (rQ T) m
abbrev tP (T:Tx)(XE:XEt)(m:Evs):TA:=tG T XE (rA T) m
abbrev tC' (T:Tx)(XE:XEt)(m:Eb):TT:=tG T XE rB m
section
variable {T:Tx}{XE:XEt}{X:Cx}{pos:Pos}
def mv (i:Nat):Ev:=λ env s=>match env[i]? with
 | some (some v)=>.ok v s
 | _=>.bad
theorem me_v {i:Nat}{e:Expr}(h:PE X e (tVar i)):PE X e (tE T XE (mv i)):=PE.imp h λ σ H Q ⟨ρ,env,s,hs,he,ho⟩=>by
 unfold mv at ho
 split at ho
 ·rename_i v ev
  obtain⟨x,e1,q⟩:=he.get i v ev
  exact⟨x,e1,ho.hereV hs q⟩
 ·exact ho.elim
def mc (v:AV):Ev:=λ _ s=>.ok v s
theorem me_int {i:Int}{j:Nat}:PE X (.Constant (.int i) j pos) (tE T XE (mc (.int i))):=PE.imp pe_int λ σ H Q ⟨ρ,env,s,hs,he,ho⟩=>ho.hereV hs vr_int
theorem me_bl {i:Bool}{j:Nat}:PE X (.Constant (.bool i) j pos) (tE T XE (mc (.bl i))):=PE.imp pe_bl λ σ H Q ⟨ρ,env,s,hs,he,ho⟩=>ho.hereV hs vr_bl
theorem me_non {j:Nat}:PE X (.Constant .none j pos) (tE T XE (mc .non)):=PE.imp pe_non λ σ H Q ⟨ρ,env,s,hs,he,ho⟩=>ho.hereV hs vr_non
theorem me_str {i:Str}{j:Nat}:PE X (.Constant (.str i) j pos) (tE T XE (mc (.str i))):=PE.imp pe_str λ σ H Q ⟨ρ,env,s,hs,he,ho⟩=>ho.hereV hs vr_str
theorem me_glob {x:Str}{v:V}{u:Value}{a:AV}(hg:Gl X x)(hm:X.mg x=some u)(r:RelV v u)(hv:∀ ρ H,VR T ρ H a v)(hd:(x == ("__debug__":Str))=false:=by decide):PE X (.Name x pos) (tE T XE (mc a)):=
 PE.imp (pe_glob hg hm r hd) λ σ H Q ⟨ρ,env,s,hs,he,ho⟩=>ho.hereV hs (hv ρ H)
def r2M (T:Tx)(XE:XEt)(op:AV->AV->S->R AV):R2:=λ x y H Q=>∃ ρ v w s,SR T ρ s H/\VR T ρ H v x/\VR T ρ H w y/\Out T XE (rV T) ρ H (op v w s) Q
def r1M (T:Tx)(XE:XEt)(op:AV->S->R AV):V->Hp->VK->Prop:=λ x H Q=>∃ ρ v s,SR T ρ s H/\VR T ρ H v x/\Out T XE (rV T) ρ H (op v s) Q
def mBin (op:AV->AV->S->R AV)(a b:Ev):Ev:=λ env s=>(a env s).bind λ v s1=>(b env s1).bind λ w s2=>op v w s2
def mUn (op:AV->S->R AV)(a:Ev):Ev:=λ env s=>(a env s).bind λ v s1=>op v s1
theorem t2 {op:AV->AV->S->R AV}{a b:Ev}{σ:St}{H:Hp}{Q:VK}(h:tE T XE (mBin op a b) σ H Q):tOp (r2M T XE op) (tE T XE a) (tE T XE b) σ H Q:=by
 obtain⟨ρ,env,s,hs,he,ho⟩:=h
 exact step hs he ho λ v s1 ρ1 H1 x _ u1 sr1 er1 vr1 ho1=>step sr1 er1 ho1 λ w s2 ρ2 H2 y _ u2 sr2 er2 vr2 ho2=>⟨ρ2,v,w,s2,sr2,VR.up u2 vr1,vr2,ho2⟩
theorem t1 {op:AV->S->R AV}{a:Ev}{σ:St}{H:Hp}{Q:VK}(h:tE T XE (mUn op a) σ H Q):tUn (r1M T XE op) (tE T XE a) σ H Q:=by
 obtain⟨ρ,env,s,hs,he,ho⟩:=h
 exact step hs he ho λ v s1 ρ1 H1 x _ u1 sr1 er1 vr1 ho1=>⟨ρ1,v,s1,sr1,vr1,ho1⟩
theorem me_bin {o:Operator}{op:AV->AV->S->R AV}{a b:Expr}{m1 m2:Ev}(hop:OpR X (binaryOp o) (r2M T XE op)) (ha:PE X a (tE T XE m1)) (hb:PE X b (tE T XE m2)):PE X (.BinOp a o b pos) (tE T XE (mBin op m1 m2)):=
 PE.imp (pe_op hop ha hb) λ _ _ _ h=>t2 h
theorem me_un {o:UnaryOp}{op:AV->S->R AV}{a:Expr}{m1:Ev}(hop:UnR X (unaryOp o) (r1M T XE op)) (ha:PE X a (tE T XE m1)):PE X (.UnaryOp o a pos) (tE T XE (mUn op m1)):=
 PE.imp (pe_un hop ha) λ _ _ _ h=>t1 h
theorem me_cmp {o:CmpOp}{op:AV->AV->S->R AV}{a b:Expr}{m1 m2:Ev}(hop:OpR X (compareOp o) (r2M T XE op)) (ha:PE X a (tE T XE m1)) (hb:PE X b (tE T XE m2)) (hm:behindInMarks o b=false:=by rfl):PE X (.Compare a [o] [b] pos) (tE T XE (mBin op m1 m2)):=
 PE.imp (pe_cmpR hop ha hb hm) λ _ _ _ h=>t2 h
theorem me_ix {op:AV->AV->S->R AV}{a b:Expr}{m1 m2:Ev}(hop:IxR X (r2M T XE op)) (ha:PE X a (tE T XE m1)) (hb:PE X b (tE T XE m2)) (hs:PlainIx b:=by exact λ _ _=>rfl):PE X (.Subscript a b pos) (tE T XE (mBin op m1 m2)):=
 PE.imp (pe_ix hop ha hb hs) λ _ _ _ h=>t2 h
theorem Out.alloc {ρ:List Addr}{H:Hp}{s:S}{o:AO}{u:HO}{p:Addr}{Q:VK}(h:Out T XE (rV T) ρ H (.ok (.ref s.length) (s++[o])) Q) (sr:SR T ρ s H)(hp:H p=none)(k:OR T (ρ++[p]) (upd H p u) o p):Q (.ref p) (upd H p u):=by
 have s1:SR T (ρ++[p]) (s++[o]) (upd H p u):=(sr.new hp).add (sr.out hp) k
 exact h _ _ _ ((sr.upNew hp).add hp) s1 (vr_ref (T:=T) (H:=upd H p u) (by rw[List.getElem?_append_right (by rw[sr.len];exact Nat.le_refl _),sr.len,Nat.sub_self];rfl))
theorem Out.tup {ρ:List Addr}{H:Hp}{s:S}{xs:List AV}{vs:List V}{p:Addr}{Q:VK}(h:Out T XE (rV T) ρ H (.ok (.tup xs) s) Q) (sr:SR T ρ s H)(hp:H p=none)(k:VRs T ρ H xs vs):Q (.ref p) (upd H p (.tup vs)):=
 h _ _ _ (sr.upNew hp) (sr.new hp) (vr_tup (SqT.of upd_same) (VRs.up (sr.upNew hp) k))
theorem Out.lst {ρ:List Addr}{H:Hp}{s:S}{xs:List AV}{vs:List V}{p:Addr}{Q:VK}(h:Out T XE (rL T) ρ H (.ok xs s) Q) (sr:SR T ρ s H)(hp:H p=none)(k:VRs T ρ H xs vs):Q (.ref p) (upd H p (.lst vs)):=
 h _ _ _ (sr.upNew hp) (sr.new hp) ⟨p,vs,rfl,hp,sr.out hp,upd_same,VRs.up (sr.upNew hp) k⟩
theorem SR.lstAt {ρ:List Addr}{H:Hp}{s:S}(sr:SR T ρ s H){i:Nat}{xs:List AV}(e:s[i]? = some (.lst xs)) {x:V}(h:VR T ρ H (.ref i) x):∃ a vs,x=.ref a/\ρ[i]? = some a/\H a=some (.lst vs)/\VRs T ρ H xs vs:=by
 obtain⟨a,e1,vs,h1,h2⟩:=sr.obj i _ e
 obtain⟨b,e2,rfl⟩:=h.ref_inv
 rw[e1]at e2
 cases e2
 exact⟨a,vs,rfl,e1,h1,h2⟩
theorem SR.dKAt {ρ:List Addr}{H:Hp}{s:S}(sr:SR T ρ s H){i:Nat}{xs:List (Key × AV)}(e:s[i]? = some (.dK xs)) {x:V}(h:VR T ρ H (.ref i) x):∃ (a:Addr) (vs:List (Key × V)),x=.ref a/\ρ[i]? = some a/\H a=some (.dK vs)/\xs.map (·.1)=vs.map (·.1)/\VRs T ρ H (xs.map (·.2)) (vs.map (·.2)):=by
 obtain⟨a,e1,vs,h1,h2⟩:=sr.obj i _ e
 obtain⟨b,e2,rfl⟩:=h.ref_inv
 rw[e1]at e2
 cases e2
 exact⟨a,vs,rfl,e1,h1,h2⟩
theorem SR.upSet {ρ:List Addr}{H:Hp}{s:S}(sr:SR T ρ s H){i:Nat}{a:Addr}(e:ρ[i]? = some a){u u0:HO}(h0:H a=some u0)(n1:∀ xs,u0≠.tup xs)(n2:∀ o v,u0≠.frz o v):Up ρ H ρ (upd H a u):=by
 refine⟨⟨List.prefix_rfl,λ b xs h=>?_,λ b o v h=>?_⟩,λ b o h n=>⟨?_,n⟩,λ b h=>?_⟩
 ·rw[upd_ne (ne_of h h0 λ z=>n1 xs z.symm)];exact h
 ·rw[upd_ne (ne_of h h0 λ z=>n2 o v z.symm)];exact h
 ·rw[upd_ne λ z=>n (by rw[z];exact List.mem_of_getElem? e)];exact h
 ·by_cases hb:b=a
  ·subst hb;rw[upd_same]at h;cases h
  ·rw[upd_ne hb]at h;exact h
theorem SR.set {ρ:List Addr}{H:Hp}{s:S}(sr:SR T ρ s H){i:Nat}{a:Addr}(e:ρ[i]? = some a){u:HO}{o:AO}(up:Up ρ H ρ (upd H a u)) (k:OR T ρ (upd H a u) o a):SR T ρ (s.set i o) (upd H a u):=by
 refine⟨sr.nd,by simp[sr.len],λ j q ej=>?_⟩
 by_cases hij:i=j
 ·subst hij
  have hl:i < s.length:=by have:=(List.getElem?_eq_some_iff.mp ej).1;simpa using this
  rw[List.getElem?_set_self hl]at ej
  cases ej
  exact⟨a,e,k⟩
 ·rw[List.getElem?_set_ne hij]at ej
  obtain⟨b,e1,q1⟩:=sr.obj j q ej
  refine⟨b,e1,q1.up up.toGr (upd_ne λ z=>hij ?_)⟩
  subst z
  have h1:=(List.getElem?_eq_some_iff.mp e)
  have h2:=(List.getElem?_eq_some_iff.mp e1)
  exact(List.getElem_inj sr.nd).mp (h1.2.trans h2.2.symm)
theorem Out.ifInv {α β:Type}{rl:Rl α β}{ρ:List Addr}{H:Hp}{c:Prop}{_:Decidable c}{r:R α}{Q:β->Hp->Prop}(h:Out T XE rl ρ H (if c then r else .bad) Q):c/\Out T XE rl ρ H r Q:=by
 by_cases hc:c
 ·rw[if_pos hc]at h;exact⟨hc,h⟩
 ·rw[if_neg hc]at h;exact h.elim
def need {α γ:Type}(o:Option γ)(f:γ->R α):R α:=match o with
 | some x=>f x
 | none=>.bad
@[simp] theorem need_some {α γ:Type}(x:γ) (f:γ->R α):need (some x) f=f x:=rfl
theorem Out.needInv {α β γ:Type}{rl:Rl α β}{ρ:List Addr}{H:Hp}{o:Option γ}{f:γ->R α}{Q:β->Hp->Prop}(h:Out T XE rl ρ H (need o f) Q):∃ x,o=some x/\Out T XE rl ρ H (f x) Q:=by
 cases o with
 | none=>exact h.elim
 | some x=>exact⟨x,rfl,h⟩
def lstO (s:S)(i:Nat):Option (List AV):=match s[i]? with
 | some (.lst xs)=>some xs
 | _=>none
theorem lstO_inv {s:S}{i:Nat}{xs:List AV}(h:lstO s i=some xs):s[i]? = some (.lst xs):=by
 unfold lstO at h
 split at h
 ·cases h;assumption
 ·cases h
theorem lstO_of {s:S}{i:Nat}{xs:List AV}(h:s[i]? = some (.lst xs)):lstO s i=some xs:=by
 unfold lstO;rw[h]
def opAdd:AV->AV->S->R AV
 | .int i,.int j,s=>.ok (.int (i+j)) s
 | .str x,.str y,s=>if x.length+y.length<=sizeLine then .ok (.str (x++y)) s else .bad
 | .tup xs,.tup ys,s=>if ys≠[]/\xs.length+ys.length<=sizeLine then .ok (.tup (xs++ys)) s else .bad
 | .ref i,.ref j,s=>need (lstO s i) λ xs=>need (lstO s j) λ ys=>if xs.length+ys.length<=sizeLine then .ok (.ref s.length) (s++[.lst (xs++ys)]) else .bad
 | _,_,_=>.bad
theorem VRs.ne {ρ:List Addr}{H:Hp}{l:List AV}{xs:List V}(h:VRs T ρ H l xs)(k:l≠[]):xs≠[]:=by
 intro z
 have:=h.length
 rw[z]at this
 exact k (List.length_eq_zero_iff.mp this)
theorem OR.lst {ρ:List Addr}{H:Hp}{a:Addr}{xs:List AV}{vs:List V}(h:H a=some (.lst vs)) (k:VRs T ρ H xs vs):OR T ρ H (.lst xs) a:=⟨vs,h,k⟩
theorem oAdd (hK:X.K=T.K):OpR X (binaryOp .Add) (r2M T XE opAdd):=by
 intro pins s σ H x y v u Q I rx ry ⟨ρ,a,b,st,sr,va,vb,ho⟩
 cases a<;>cases b<;>try exact ho.elim
 ·exact op_add pins s σ H x y v u Q I rx ry ⟨_,_,va.int_inv,vb.int_inv,ho.hereV sr vr_int⟩
 ·obtain⟨hl,ho⟩:=ho.ifInv
  exact op_add_str pins s σ H x y v u Q I rx ry ⟨_,_,va.str_inv,vb.str_inv,hl,ho.hereV sr vr_str⟩
 ·obtain⟨hl,ho⟩:=ho.ifInv
  obtain⟨p,vs,rfl,h1,k1⟩:=va.tup_inv
  obtain⟨q,ws,rfl,h2,k2⟩:=vb.tup_inv
  refine op_catT2 pins s σ H (.ref p) (.ref q) v u Q I rx ry ⟨p,q,vs,ws,rfl,rfl,hK ▸ h1,hK ▸ h2,k2.ne hl.1,by rw[<-k1.length,<-k2.length];exact hl.2,λ hx=>?_,λ _ r hr=>ho.tup sr hr (k1.append k2)⟩
  have hx':vs=[]:=hx
  subst hx'
  exact ho.hereV sr (vr_tup h2 (k1.append k2))
 ·obtain⟨xs,e1,ho⟩:=ho.needInv
  obtain⟨ys,e2,ho⟩:=ho.needInv
  obtain⟨hl,ho⟩:=ho.ifInv
  obtain⟨p,vs,rfl,_,h1,k1⟩:=sr.lstAt (lstO_inv e1) va
  obtain⟨q,ws,rfl,_,h2,k2⟩:=sr.lstAt (lstO_inv e2) vb
  refine op_cat pins s σ H (.ref p) (.ref q) v u Q I rx ry ⟨p,q,vs,ws,rfl,rfl,h1,h2,by rw[<-k1.length,<-k2.length];exact hl,λ r hr=>ho.alloc sr hr ?_⟩
  exact OR.lst upd_same (VRs.gr ((sr.upNew hr).add hr).toGr (k1.append k2))
def opSub:AV->AV->S->R AV
 | .int i,.int j,s=>.ok (.int (i - j)) s
 | _,_,_=>.bad
theorem oSub:OpR X (binaryOp .Sub) (r2M T XE opSub):=by
 intro pins s σ H x y v u Q I rx ry ⟨ρ,a,b,st,sr,va,vb,ho⟩
 cases a<;>cases b<;>try exact ho.elim
 exact op_sub pins s σ H x y v u Q I rx ry ⟨_,_,va.int_inv,vb.int_inv,ho.hereV sr vr_int⟩
noncomputable def opMul:AV->AV->S->R AV
 | .int i,.int j,s=>if Big i/\Big j then .ok (.int (i * j)) s else .bad
 | _,_,_=>.bad
theorem oMul:OpR X (binaryOp .Mult) (r2M T XE opMul):=by
 intro pins s σ H x y v u Q I rx ry ⟨ρ,a,b,st,sr,va,vb,ho⟩
 cases a<;>cases b<;>try exact ho.elim
 obtain⟨hl,ho⟩:=ho.ifInv
 exact op_mulG pins s σ H x y v u Q I rx ry ⟨_,_,va.int_inv,vb.int_inv,⟨hl.1.f,hl.2.f⟩,ho.hereV sr vr_int⟩
noncomputable def opFdiv:AV->AV->S->R AV
 | .int i,.int j,s=>if j≠0/\Mid j then .ok (.int (i.fdiv j)) s else .bad
 | _,_,_=>.bad
theorem oFdiv:OpR X (binaryOp .FloorDiv) (r2M T XE opFdiv):=by
 intro pins s σ H x y v u Q I rx ry ⟨ρ,a,b,st,sr,va,vb,ho⟩
 cases a<;>cases b<;>try exact ho.elim
 obtain⟨hl,ho⟩:=ho.ifInv
 exact op_fdivG pins s σ H x y v u Q I rx ry ⟨_,_,va.int_inv,vb.int_inv,⟨hl.1,hl.2.f⟩,ho.hereV sr vr_int⟩
def opMod:AV->AV->S->R AV
 | .int i,.int j,s=>if j≠0 then .ok (.int (i.fmod j)) s else .bad
 | _,_,_=>.bad
theorem oMod:OpR X (binaryOp .Mod) (r2M T XE opMod):=by
 intro pins s σ H x y v u Q I rx ry ⟨ρ,a,b,st,sr,va,vb,ho⟩
 cases a<;>cases b<;>try exact ho.elim
 obtain⟨hl,ho⟩:=ho.ifInv
 exact op_modN pins s σ H x y v u Q I rx ry ⟨_,_,va.int_inv,vb.int_inv,hl,ho.hereV sr vr_int⟩
instance {i j:Int}:Decidable (CPow i j):=inferInstanceAs (Decidable (0<=j/\j<=1000000/\i.natAbs < 2 ^ 64))
def opPow:AV->AV->S->R AV
 | .int i,.int j,s=>if CPow i j then .ok (.int (i ^ j.toNat)) s else .bad
 | _,_,_=>.bad
theorem oPow:OpR X (binaryOp .Pow) (r2M T XE opPow):=by
 intro pins s σ H x y v u Q I rx ry ⟨ρ,a,b,st,sr,va,vb,ho⟩
 cases a<;>cases b<;>try exact ho.elim
 obtain⟨hl,ho⟩:=ho.ifInv
 exact op_pow pins s σ H x y v u Q I rx ry ⟨_,_,va.int_inv,vb.int_inv,hl,ho.hereV sr vr_int⟩
def opNeg:AV->S->R AV
 | .int i,s=>.ok (.int (-i)) s
 | _,_=>.bad
theorem oNeg:UnR X (unaryOp .USub) (r1M T XE opNeg):=by
 intro pins s σ H x v Q I rx ⟨ρ,a,st,sr,va,ho⟩
 cases a<;>try exact ho.elim
 exact un_neg pins s σ H x v Q I rx ⟨_,va.int_inv,ho.hereV sr vr_int⟩
def opLt:AV->AV->S->R AV
 | .int i,.int j,s=>.ok (.bl (decide (i < j))) s
 | .str i,.str j,s=>.ok (.bl (decide (i.cps.toList < j.cps.toList))) s
 | _,_,_=>.bad
theorem oLt:OpR X (compareOp .Lt) (r2M T XE opLt):=by
 intro pins s σ H x y v u Q I rx ry ⟨ρ,a,b,st,sr,va,vb,ho⟩
 cases a<;>cases b<;>try exact ho.elim
 ·exact op_lt pins s σ H x y v u Q I rx ry ⟨_,_,va.int_inv,vb.int_inv,ho.hereV sr vr_bl⟩
 ·exact op_lt_str pins s σ H x y v u Q I rx ry ⟨_,_,va.str_inv,vb.str_inv,ho.hereV sr vr_bl⟩
def opLe:AV->AV->S->R AV
 | .int i,.int j,s=>.ok (.bl (decide (i<=j))) s
 | _,_,_=>.bad
theorem oLe:OpR X (compareOp .LtE) (r2M T XE opLe):=by
 intro pins s σ H x y v u Q I rx ry ⟨ρ,a,b,st,sr,va,vb,ho⟩
 cases a<;>cases b<;>try exact ho.elim
 exact op_le pins s σ H x y v u Q I rx ry ⟨_,_,va.int_inv,vb.int_inv,ho.hereV sr vr_bl⟩
def opGt:AV->AV->S->R AV
 | .int i,.int j,s=>.ok (.bl (decide (j < i))) s
 | _,_,_=>.bad
theorem oGt:OpR X (compareOp .Gt) (r2M T XE opGt):=by
 intro pins s σ H x y v u Q I rx ry ⟨ρ,a,b,st,sr,va,vb,ho⟩
 cases a<;>cases b<;>try exact ho.elim
 exact op_gt pins s σ H x y v u Q I rx ry ⟨_,_,va.int_inv,vb.int_inv,ho.hereV sr vr_bl⟩
def opGe:AV->AV->S->R AV
 | .int i,.int j,s=>.ok (.bl (decide (j<=i))) s
 | _,_,_=>.bad
theorem oGe:OpR X (compareOp .GtE) (r2M T XE opGe):=by
 intro pins s σ H x y v u Q I rx ry ⟨ρ,a,b,st,sr,va,vb,ho⟩
 cases a<;>cases b<;>try exact ho.elim
 exact op_ge pins s σ H x y v u Q I rx ry ⟨_,_,va.int_inv,vb.int_inv,ho.hereV sr vr_bl⟩
def toD:Nat->S->AV->Option Dt
 | _,_,.non=>some .non
 | _,_,.bl b=>some (.bl b)
 | _,_,.int b=>some (.int b)
 | _,_,.str b=>some (.str b)
 | n+1,s,.tup xs=>(xs.mapM (toD n s)).map .tup
 | n+1,s,.sq xs=>(xs.mapM (toD n s)).map .lst
 | n+1,s,.ref i=>(lstO s i).bind λ xs=>(xs.mapM (toD n s)).map .lst
 | _,_,_=>none
theorem mapM_cons' {α β:Type}{f:α->Option β}{a:α}{l:List α}{r:List β}(h:(a :: l).mapM f=some r):∃ b q,f a=some b/\l.mapM f=some q/\r=b :: q:=by
 rw[List.mapM_cons]at h
 cases e1:f a with
 | none=>rw[e1]at h;cases h
 | some b=>
  cases e2:l.mapM f with
  | none=>rw[e1,e2]at h;cases h
  | some q=>rw[e1,e2]at h;cases h;exact⟨b,q,rfl,rfl,rfl⟩
theorem reps_of {ρ:List Addr}{H:Hp}{f:AV->Option Dt}(hf:∀ v d x,f v=some d->VR T ρ H v x->Rep T.K (λ _=>False) H d x):∀ {xs:List AV}{l:List Dt}{vs:List V},xs.mapM f=some l->VRs T ρ H xs vs->RepL T.K (λ _=>False) H l vs
 | [],l,vs,h,k=>by
  rw[List.mapM_nil]at h
  cases h
  unfold RepL
  exact k.nil_inv
 | a :: r,l,vs,h,k=>by
  obtain⟨b,q,h1,h2,rfl⟩:=mapM_cons' h
  obtain⟨x,ys,rfl,k1,k2⟩:=k.cons_inv
  unfold RepL
  exact⟨x,ys,rfl,hf a b x h1 k1,reps_of hf h2 k2⟩
theorem rep_of {ρ:List Addr}{H:Hp}{s:S}(sr:SR T ρ s H):∀ (n:Nat) (v:AV) (d:Dt) (x:V),toD n s v=some d->VR T ρ H v x->Rep T.K (λ _=>False) H d x
 | n,.non,d,x,h,k=>by
  have h:some Dt.non=some d:=by cases n<;>exact h
  cases h;unfold Rep;exact k.non_inv
 | n,.bl b,d,x,h,k=>by
  have h:some (Dt.bl b)=some d:=by cases n<;>exact h
  cases h;unfold Rep;exact k.bl_inv
 | n,.int b,d,x,h,k=>by
  have h:some (Dt.int b)=some d:=by cases n<;>exact h
  cases h;unfold Rep;exact k.int_inv
 | n,.str b,d,x,h,k=>by
  have h:some (Dt.str b)=some d:=by cases n<;>exact h
  cases h;unfold Rep;exact k.str_inv
 | 0,.tup xs,d,x,h,k=>by cases h
 | 0,.sq xs,d,x,h,k=>by cases h
 | 0,.ref xs,d,x,h,k=>by cases h
 | n+1,.tup xs,d,x,h,k=>by
  have h:(xs.mapM (toD n s)).map Dt.tup=some d:=h
  obtain⟨a,vs,rfl,h1,k1⟩:=k.tup_inv
  cases e:xs.mapM (toD n s) with
  | none=>rw[e]at h;cases h
  | some l=>
   rw[e]at h;cases h
   unfold Rep
   exact⟨a,vs,rfl,λ z=>z,h1,reps_of (λ v d x=>rep_of sr n v d x) e k1⟩
 | n+1,.sq xs,d,x,h,k=>by
  have h:(xs.mapM (toD n s)).map Dt.lst=some d:=h
  obtain⟨a,vs,rfl,h1,k1⟩:=k.sq_inv
  cases e:xs.mapM (toD n s) with
  | none=>rw[e]at h;cases h
  | some l=>
   rw[e]at h;cases h
   unfold Rep
   exact⟨a,vs,rfl,λ z=>z,h1.sqL,reps_of (λ v d x=>rep_of sr n v d x) e k1⟩
 | n+1,.ref i,d,x,h,k=>by
  have h:(lstO s i).bind (λ xs=>(xs.mapM (toD n s)).map Dt.lst)=some d:=h
  cases e0:lstO s i with
  | none=>rw[e0]at h;cases h
  | some xs=>
   rw[e0]at h
   have h:(xs.mapM (toD n s)).map Dt.lst=some d:=h
   obtain⟨a,vs,rfl,_,h1,k1⟩:=sr.lstAt (lstO_inv e0) k
   cases e:xs.mapM (toD n s) with
   | none=>rw[e]at h;cases h
   | some l=>
    rw[e]at h;cases h
    unfold Rep
    exact⟨a,vs,rfl,λ z=>z,SqL.of h1,reps_of (λ v d x=>rep_of sr n v d x) e k1⟩
def eqAV (s:S):AV->AV->Option Bool
 | .non,.non=>some true
 | .non,.int _=>some false|.int _,.non=>some false|.non,.bl _=>some false|.bl _,.non=>some false|.non,.str _=>some false|.str _,.non=>some false
 | .int i,.int j=>some (decide (i=j))
 | .bl i,.bl j=>some (decide (i=j))
 | .str i,.str j=>some (decide (i=j))
 | .int _,.str _=>some false|.str _,.int _=>some false|.bl _,.str _=>some false|.str _,.bl _=>some false
 | v,w=>match toD 20 s v,toD 20 s w with
  | some (.tup l),some (.tup q)=>if depL l<=20 then some (eqDL l q) else none
  | some (.lst l),some (.lst q)=>if depL l<=20 then some (eqDL l q) else none
  | _,_=>none
def opEq (v w:AV)(s:S):R AV:=need (eqAV s v w) λ b=>.ok (.bl b) s
def opNe (v w:AV)(s:S):R AV:=need (eqAV s v w) λ b=>.ok (.bl (!b)) s
def EqRest (s:S)(v w:AV)(b:Bool):Prop:=∃ (c:Bool) (l q:List Dt),toD 20 s v=some (if c then .tup l else .lst l)/\toD 20 s w=some (if c then .tup q else .lst q)/\depL l<=20/\b=eqDL l q
theorem eqRest_of {s:S}{v w:AV}{b:Bool}(h:(match toD 20 s v,toD 20 s w with
  | some (.tup l),some (.tup q)=>if depL l<=20 then some (eqDL l q) else none
  | some (.lst l),some (.lst q)=>if depL l<=20 then some (eqDL l q) else none
  | _,_=>none)=some b):EqRest s v w b:=by
 split at h
 ·rename_i l q e1 e2
  split at h
  ·rename_i hd
   cases h
   exact⟨true,l,q,e1,e2,hd,rfl⟩
  ·cases h
 ·rename_i l q e1 e2
  split at h
  ·rename_i hd
   cases h
   exact⟨false,l,q,e1,e2,hd,rfl⟩
  ·cases h
 ·cases h
theorem eqAV_inv {ρ:List Addr}{H:Hp}{s:S}{v w:AV}{b:Bool}{x y:V}(h:eqAV s v w=some b)(va:VR T ρ H v x)(vb:VR T ρ H w y):(scal x y=true/\decide (x=y)=b)∨EqRest s v w b:=by
  cases v<;>cases w<;>first
    | exact .inr (eqRest_of h)
    | (refine .inl ?_
       have h:some _=some b:=h
       cases h
       first
         | cases va.non_inv|cases va.int_inv|cases va.bl_inv|cases va.str_inv
       first
         | cases vb.non_inv|cases vb.int_inv|cases vb.bl_inv|cases vb.str_inv
       refine⟨rfl,?_⟩
       first
         | rfl
         | simp)
theorem oEq (hK:X.K=T.K)(hu:X.A.units+30 < cLine):OpR X (compareOp .Eq) (r2M T XE opEq):=by
 intro pins s σ H x y v u Q I rx ry ⟨ρ,a,b,st,sr,va,vb,ho⟩
 obtain⟨c,e,ho⟩:=ho.needInv
 rcases eqAV_inv e va vb with⟨h1,h2⟩|⟨t,l,q,e1,e2,hd,rfl⟩
 ·exact op_eq pins s σ H x y v u Q I rx ry ⟨h1,by rw[h2];exact ho.hereV sr vr_bl⟩
 ·refine op_eqD hu pins s σ H x y v u Q I rx ry ⟨λ _=>False,λ _=>False,l,q,t,⟨?_,?_⟩,hd,ho.hereV sr vr_bl⟩
  ·exact hK ▸ rep_of sr 20 _ _ _ e1 va
  ·exact hK ▸ rep_of sr 20 _ _ _ e2 vb
theorem oNe (hK:X.K=T.K)(hu:X.A.units+30 < cLine):OpR X (compareOp .NotEq) (r2M T XE opNe):=by
 intro pins s σ H x y v u Q I rx ry ⟨ρ,a,b,st,sr,va,vb,ho⟩
 obtain⟨c,e,ho⟩:=ho.needInv
 rcases eqAV_inv e va vb with⟨h1,h2⟩|⟨t,l,q,e1,e2,hd,rfl⟩
 ·exact op_ne pins s σ H x y v u Q I rx ry ⟨h1,by rw[h2];exact ho.hereV sr vr_bl⟩
 ·refine op_neD hu pins s σ H x y v u Q I rx ry ⟨λ _=>False,λ _=>False,l,q,t,⟨?_,?_⟩,hd,ho.hereV sr vr_bl⟩
  ·exact hK ▸ rep_of sr 20 _ _ _ e1 va
  ·exact hK ▸ rep_of sr 20 _ _ _ e2 vb
def isNon:AV->Bool
 | .non=>true
 | _=>false
def opIsN:AV->AV->S->R AV
 | v,.non,s=>.ok (.bl (isNon v)) s
 | _,_,_=>.bad
def opIsntN:AV->AV->S->R AV
 | v,.non,s=>.ok (.bl (!isNon v)) s
 | .bl a,.bl b,s=>.ok (.bl (a != b)) s
 | _,_,_=>.bad
theorem isNon_eq {ρ:List Addr}{H:Hp}{v:AV}{x:V}(h:VR T ρ H v x):decide (x=.non)=isNon v:=by
 cases v
 ·cases h.non_inv;rfl
 ·cases h.bl_inv;rfl
 ·cases h.int_inv;rfl
 ·cases h.str_inv;rfl
 ·obtain⟨_,_,rfl,_⟩:=h.tup_inv;rfl
 ·obtain⟨_,_,rfl⟩:=h.ref_inv;rfl
 ·obtain⟨_,_,rfl,_⟩:=h.sq_inv;rfl
theorem oIsN:OpR X (compareOp .Is) (r2M T XE opIsN):=by
 intro pins s σ H x y v u Q I rx ry ⟨ρ,a,b,st,sr,va,vb,ho⟩
 cases b<;>try (cases a<;>exact ho.elim)
 exact op_isN pins s σ H x y v u Q I rx ry ⟨vb.non_inv,by rw[isNon_eq va];cases a<;>exact ho.hereV sr vr_bl⟩
theorem oIsntN:OpR X (compareOp .IsNot) (r2M T XE opIsntN):=by
 intro pins s σ H x y v u Q I rx ry ⟨ρ,a,b,st,sr,va,vb,ho⟩
 cases b
 ·exact op_notN pins s σ H x y v u Q I rx ry ⟨vb.non_inv,by rw[isNon_eq va];cases a<;>exact ho.hereV sr vr_bl⟩
 ·cases a<;>try exact ho.elim
  exact op_isnotB pins s σ H x y v u Q I rx ry ⟨_,_,va.bl_inv,vb.bl_inv,ho.hereV sr vr_bl⟩
 all_goals (cases a<;>exact ho.elim)
end
end Mm
namespace Mm
open PySem L2
section
variable {T:Tx}{XE:XEt}{X:Cx}{pos:Pos}
def pNil:Evs:=λ _ s=>.ok [] s
def pCons (a:Ev)(r:Evs):Evs:=λ env s=>(a env s).bind λ v s1=>(r env s1).bind λ vs s2=>.ok (v :: vs) s2
theorem pa_nil':PA X [] (tP T XE pNil):=PA.imp pa_nil λ σ H Q ⟨ρ,env,s,hs,he,ho⟩=>ho.here (x:=[]) hs (VRs.nil (T:=T) (ρ:=ρ) (H:=H))
theorem pa_cons' {e:Expr}{es:List Expr}{m:Ev}{r:Evs}(ha:PE X e (tE T XE m)) (hr:PA X es (tP T XE r)) (hs:starEach (e :: es) X.env=(false,eval e X.env) :: starEach es X.env:=by rfl):PA X (e :: es) (tP T XE (pCons m r)):=
 PA.imp (pa_cons ha hr hs) λ σ H Q ⟨ρ,env,s,hs,he,ho⟩=>
  step hs he ho λ v s1 ρ1 H1 x _ u1 sr1 er1 vr1 ho1=>step sr1 er1 ho1 λ w s2 ρ2 H2 y _ u2 sr2 er2 vr2 ho2=>ho2.here sr2 (VRs.cons (VR.up u2 vr1) vr2)
def mTup (r:Evs):Ev:=λ env s=>(r env s).bind λ vs s1=>if vs.length<=sizeLine then .ok (.tup vs) s1 else .bad
theorem me_tup {es:List Expr}{k:Nat}{r:Evs}(h:PA X es (tP T XE r)):PE X (.Tuple es k pos) (tE T XE (mTup r)):=
 PE.imp (pe_tup h) λ σ H Q ⟨ρ,env,s,hs,he,ho⟩=>step hs he ho λ v s1 ρ1 H1 x _ u1 sr1 er1 vr1 ho1=>by
  obtain⟨hl,ho1⟩:=ho1.ifInv
  have vr1:VRs T ρ1 H1 v x:=vr1
  exact⟨by rw[<-vr1.length];exact hl,λ p hp=>ho1.tup sr1 hp vr1⟩
def lLst (r:Evs):Evs:=λ env s=>(r env s).bind λ vs s1=>if vs.length<=sizeLine then .ok vs s1 else .bad
theorem ml_lst {es:List Expr}{r:Evs}(h:PA X es (tP T XE r)):PE X (.List es pos) (tL T XE (lLst r)):=
 PE.imp (pe_lst h) λ σ H Q ⟨ρ,env,s,hs,he,ho⟩=>step hs he ho λ v s1 ρ1 H1 x _ u1 sr1 er1 vr1 ho1=>by
  obtain⟨hl,ho1⟩:=ho1.ifInv
  have vr1:VRs T ρ1 H1 v x:=vr1
  exact⟨by rw[<-vr1.length];exact hl,λ p hp=>ho1.lst sr1 hp vr1⟩
def mNew (r:Evs):Ev:=λ env s=>(r env s).bind λ vs s1=>.ok (.ref s1.length) (s1++[.lst vs])
theorem me_new {e:Expr}{r:Evs}(h:PE X e (tL T XE r)):PE X e (tE T XE (mNew r)):=
 PE.imp h λ σ H Q ⟨ρ,env,s,hs,he,ho⟩=>by
  refine⟨ρ,env,s,hs,he,?_⟩
  unfold mNew at ho
  cases e:r env s with
  | bad=>rw[e]at ho;exact ho
  | ex c s1=>rw[e]at ho;exact ho
  | ok vs s1=>
   rw[e]at ho
   intro ρ1 H1 x u sr ⟨a,ws,e1,h0,h1,h2,k⟩
   subst e1
   have g:Gr ρ1 H1 (ρ1++[a]) H1:=⟨List.prefix_append _ _,λ _ _ z=>z,λ _ _ _ z=>z⟩
   refine ho (ρ1++[a]) H1 (.ref a) (u.add h0) (sr.add h1 (OR.lst h2 (k.gr g))) (vr_ref (T:=T) (H:=H1) ?_)
   rw[List.getElem?_append_right (by rw[sr.len];exact Nat.le_refl _),sr.len,Nat.sub_self];rfl
theorem mq_new {e:Expr}{r:Evs}(h:PE X e (tL T XE r)):PE X e (tQ T XE r):=
 PE.imp h λ σ H Q ⟨ρ,env,s,hs,he,ho⟩=>by
  refine⟨ρ,env,s,hs,he,?_⟩
  cases e:r env s with
  | bad=>rw[e]at ho;exact ho
  | ex c s1=>rw[e]at ho;exact ho
  | ok vs s1=>
   rw[e]at ho
   intro ρ1 H1 x u sr ⟨a,ws,e1,h0,h1,h2,k⟩
   exact ho ρ1 H1 x u sr ⟨a,ws,e1,.inl (SqL.of h2),k⟩
def items (v:AV)(s:S):Option (List AV):=match v with
 | .tup xs=>some xs
 | .sq xs=>some xs
 | .ref i=>lstO s i
 | _=>none
theorem items_inv {ρ:List Addr}{H:Hp}{s:S}{v:AV}{xs:List AV}{x:V}(h:items v s=some xs)(sr:SR T ρ s H)(va:VR T ρ H v x):∃ a vs,x=.ref a/\(SqL T.K H a vs∨SqT T.K H a vs)/\VRs T ρ H xs vs:=by
 cases v<;>try cases h
 ·obtain⟨a,vs,rfl,h1,k⟩:=va.tup_inv
  exact⟨a,vs,rfl,.inr h1,k⟩
 ·obtain⟨a,vs,rfl,_,h1,k⟩:=sr.lstAt (lstO_inv h) va
  exact⟨a,vs,rfl,.inl (SqL.of h1),k⟩
 ·obtain⟨a,vs,rfl,h1,k⟩:=va.sq_inv
  exact⟨a,vs,rfl,.inl h1.sqL,k⟩
def lIts (m:Ev):Evs:=λ env s=>(m env s).bind λ v s1=>need (items v s1) λ xs=>.ok xs s1
theorem mq_its {e:Expr}{m:Ev}(h:PE X e (tE T XE m)):PE X e (tQ T XE (lIts m)):=
 PE.imp h λ σ H Q ⟨ρ,env,s,hs,he,ho⟩=>step hs he ho λ v s1 ρ1 H1 x _ u1 sr1 er1 vr1 ho1=>by
  obtain⟨xs,e,ho1⟩:=ho1.needInv
  exact ho1 ρ1 H1 x .refl sr1 (items_inv e sr1 vr1)
mutual
def AV.low (b:Nat):AV->Bool
 | .ref i=>decide (i < b)
 | .tup xs=>lowL b xs
 | .sq xs=>lowL b xs
 | _=>true
def lowL (b:Nat):List AV->Bool
 | []=>true
 | v :: r=>v.low b && lowL b r
end
mutual
theorem VR.cut {ρ ρ':List Addr}{H:Hp}{b:Nat}(e:ρ'.take b=ρ):∀ {v:AV}{x:V},v.low b=true->VR T ρ' H v x->VR T ρ H v x
 | .non,_,_,h=>by unfold VR at *;exact h
 | .bl _,_,_,h=>by unfold VR at *;exact h
 | .int _,_,_,h=>by unfold VR at *;exact h
 | .str _,_,_,h=>by unfold VR at *;exact h
 | .ref i,_,k,h=>by
  obtain⟨a,e1,rfl⟩:=h.ref_inv
  unfold AV.low at k
  exact vr_ref (by rw[<-e,List.getElem?_take_of_lt (of_decide_eq_true k)];exact e1)
 | .tup xs,_,k,h=>by
  obtain⟨a,vs,rfl,h1,h2⟩:=h.tup_inv
  unfold AV.low at k
  exact vr_tup h1 (VRs.cut e k h2)
 | .sq xs,_,k,h=>by
  obtain⟨a,vs,rfl,h1,h2⟩:=h.sq_inv
  unfold AV.low at k
  unfold VR
  exact⟨a,vs,rfl,h1,VRs.cut e k h2⟩
theorem VRs.cut {ρ ρ':List Addr}{H:Hp}{b:Nat}(e:ρ'.take b=ρ):∀ {v:List AV}{x:List V},lowL b v=true->VRs T ρ' H v x->VRs T ρ H v x
 | [],_,_,h=>by cases h.nil_inv;exact .nil
 | _ :: _,_,k,h=>by
  obtain⟨x,ys,rfl,h1,h2⟩:=h.cons_inv
  unfold lowL at k
  rw[Bool.and_eq_true]at k
  exact .cons (VR.cut e k.1 h1) (VRs.cut e k.2 h2)
end
mutual
theorem VR.low {ρ:List Addr}{H:Hp}:∀ {v:AV}{x:V},VR T ρ H v x->v.low ρ.length=true
 | .non,_,_=>by unfold AV.low;rfl
 | .bl _,_,_=>by unfold AV.low;rfl
 | .int _,_,_=>by unfold AV.low;rfl
 | .str _,_,_=>by unfold AV.low;rfl
 | .ref i,_,h=>by
  obtain⟨a,e1,rfl⟩:=h.ref_inv
  unfold AV.low
  exact decide_eq_true (List.getElem?_eq_some_iff.mp e1).1
 | .tup xs,_,h=>by
  obtain⟨a,vs,rfl,h1,h2⟩:=h.tup_inv
  unfold AV.low
  exact VRs.low h2
 | .sq xs,_,h=>by
  obtain⟨a,vs,rfl,h1,h2⟩:=h.sq_inv
  unfold AV.low
  exact VRs.low h2
theorem VRs.low {ρ:List Addr}{H:Hp}:∀ {v:List AV}{x:List V},VRs T ρ H v x->lowL ρ.length v=true
 | [],_,_=>by unfold lowL;rfl
 | _ :: _,_,h=>by
  obtain⟨x,ys,rfl,h1,h2⟩:=h.cons_inv
  unfold lowL
  rw[VR.low h1,VRs.low h2];rfl
end
def AO.low (b:Nat):AO->Bool
 | .lst xs=>lowL b xs
 | .dK kvs=>lowL b (kvs.map (·.2))
 | .dT kvs=>lowL b (kvs.map (·.2))
 | .ins _ fs=>lowL b (fs.map (·.2))
 | .exc _=>true
 | .tab _ _=>true
theorem OR.low {ρ:List Addr}{H:Hp}{o:AO}{a:Addr}(h:OR T ρ H o a):o.low ρ.length=true:=by
 cases o with
 | lst xs=>obtain⟨_,_,k⟩:=h;exact k.low
 | dK xs=>obtain⟨_,_,_,k⟩:=h;exact k.low
 | dT xs=>obtain⟨_,_,_,k⟩:=h;exact k.low
 | ins C xs=>obtain⟨_,_,_,_,k⟩:=h;exact k.low
 | exc C=>rfl
 | tab i q=>rfl
theorem OR.cut {ρ ρ':List Addr}{H:Hp}{b:Nat}(e:ρ'.take b=ρ){o:AO}{a:Addr}(k:o.low b=true)(h:OR T ρ' H o a):OR T ρ H o a:=by
 cases o with
 | lst xs=>obtain⟨vs,h1,h2⟩:=h;exact⟨vs,h1,VRs.cut e k h2⟩
 | dK xs=>obtain⟨vs,h1,q,h2⟩:=h;exact⟨vs,h1,q,VRs.cut e k h2⟩
 | dT xs=>obtain⟨vs,h1,q,h2⟩:=h;exact⟨vs,h1,q,VRs.cut e k h2⟩
 | ins C xs=>obtain⟨dx,vs,h1,q,h2⟩:=h;exact⟨dx,vs,h1,q,VRs.cut e k h2⟩
 | exc C=>exact h
 | tab i q=>exact h
theorem SR.closed {ρ:List Addr}{H:Hp}{s:S}(sr:SR T ρ s H):s.all (AO.low s.length)=true:=by
 rw[List.all_eq_true]
 intro o ho
 obtain⟨i,hi,e⟩:=List.getElem_of_mem ho
 obtain⟨a,_,q⟩:=sr.obj i o (by rw[List.getElem?_eq_getElem hi,e])
 rw[<-sr.len]
 exact q.low
theorem SR.cut {ρ ρ':List Addr}{H:Hp}{s':S}{b:Nat}(sr:SR T ρ' s' H)(hl:ρ <+: ρ')(hb:ρ.length=b)(k:(s'.take b).all (AO.low b)=true):SR T ρ (s'.take b) H:=by
 have e:ρ'.take b=ρ:=by obtain⟨t,rfl⟩:=hl;rw[<-hb,List.take_left'];rfl
 have hle:b<=s'.length:=by rw[<-hb,<-sr.len];exact hl.length_le
 refine⟨?_,by rw[List.length_take,Nat.min_eq_left hle];exact hb,λ i o ei=>?_⟩
 ·rw[<-e];exact sr.nd.sublist (List.take_sublist _ _)
 ·have hi:i < b:=by have:=(List.getElem?_eq_some_iff.mp ei).1;rw[List.length_take]at this;omega
  have ei':=ei
  rw[List.getElem?_take_of_lt hi]at ei
  obtain⟨a,e1,q⟩:=sr.obj i o ei
  refine⟨a,by rw[<-e,List.getElem?_take_of_lt hi];exact e1,q.cut e ?_⟩
  exact List.all_eq_true.mp k o (List.mem_of_getElem? ei')
theorem Up.cut {ρ ρ':List Addr}{H H':Hp}(u:Up ρ H ρ' H'):Up ρ H ρ H':=⟨⟨List.prefix_rfl,u.tups,u.frzs⟩,λ b o e n=>⟨(u.fr b o e n).1,n⟩,u.live⟩
noncomputable def gcE (m:Ev):Ev:=λ env s=>(m env s).bind λ v s1=>open Classical in if s1.take s.length=s/\v.low s.length=true then .ok v s else .bad
theorem me_gc {e:Expr}{m:Ev}(h:PE X e (tE T XE m)):PE X e (tE T XE (gcE m)):=
 PE.imp h λ σ H Q ⟨ρ,env,s,hs,he,ho⟩=>by
  refine⟨ρ,env,s,hs,he,?_⟩
  unfold gcE at ho
  cases e:m env s with
  | bad=>rw[e]at ho;exact ho
  | ex c s1=>rw[e]at ho;exact ho
  | ok v s1=>
   rw[e]at ho
   obtain⟨⟨e1,e2⟩,ho⟩:=ho.ifInv
   intro ρ1 H1 x u sr vr
   have hc:=hs.closed
   have et:ρ1.take s.length=ρ:=by obtain⟨t,rfl⟩:=u.pre;rw[<-hs.len,List.take_left'];rfl
   refine ho ρ H1 x u.cut ?_ (VR.cut et e2 vr)
   have:=sr.cut u.pre hs.len (by rw[e1];exact hc)
   rw[e1]at this
   exact this
def gcM (m:Ev):Ev:=λ env s=>(m env s).bind λ v s1=>if (s1.take s.length).all (AO.low s.length)=true/\v.low s.length=true then .ok v (s1.take s.length) else .bad
theorem me_gcM {e:Expr}{m:Ev}(h:PE X e (tE T XE m)):PE X e (tE T XE (gcM m)):=
 PE.imp h λ σ H Q ⟨ρ,env,s,hs,he,ho⟩=>by
  refine⟨ρ,env,s,hs,he,?_⟩
  unfold gcM at ho
  cases e:m env s with
  | bad=>rw[e]at ho;exact ho
  | ex c s1=>rw[e]at ho;exact ho
  | ok v s1=>
   rw[e]at ho
   obtain⟨⟨e1,e2⟩,ho⟩:=ho.ifInv
   intro ρ1 H1 x u sr vr
   have et:ρ1.take s.length=ρ:=by obtain⟨t,rfl⟩:=u.pre;rw[<-hs.len,List.take_left'];rfl
   exact ho ρ H1 x u.cut (sr.cut u.pre hs.len e1) (VR.cut et e2 vr)
def lTake (m:Ev):Evs:=λ env s=>(m env s).bind λ v s1=>match v with
 | .ref k=>need (lstO s1 k) λ xs=>if s.length<=k/\(s1.take s.length).all (AO.low s.length)=true/\lowL s.length xs=true then .ok xs (s1.take s.length) else .bad
 | _=>.bad
theorem ml_take {e:Expr}{m:Ev}(h:PE X e (tE T XE m)):PE X e (tL T XE (lTake m)):=
 PE.imp h λ σ H Q ⟨ρ,env,s,hs,he,ho⟩=>by
  refine⟨ρ,env,s,hs,he,?_⟩
  unfold lTake at ho
  cases e:m env s with
  | bad=>rw[e]at ho;exact ho
  | ex c s1=>rw[e]at ho;exact ho
  | ok v s1=>
   rw[e]at ho
   cases v with
   | ref k=>
    obtain⟨xs,e0,ho⟩:=ho.needInv
    obtain⟨⟨hk,e1,e2⟩,ho⟩:=ho.ifInv
    intro ρ1 H1 x u sr vr
    obtain⟨a,vs,rfl,ea,h1,k1⟩:=sr.lstAt (lstO_inv e0) vr
    have et:ρ1.take s.length=ρ:=by obtain⟨t,rfl⟩:=u.pre;rw[<-hs.len,List.take_left'];rfl
    have na:a∉ρ:=λ z=>by
     obtain⟨j,hj,ej⟩:=List.getElem_of_mem z
     have e3:ρ1[j]? = some a:=pre_get u.pre (by rw[List.getElem?_eq_getElem hj,ej])
     have h3:=List.getElem?_eq_some_iff.mp ea
     have h4:=List.getElem?_eq_some_iff.mp e3
     have:k=j:=(List.getElem_inj sr.nd).mp (h3.2.trans h4.2.symm)
     rw[hs.len]at hj
     omega
    refine ho ρ H1 (.ref a) u.cut (sr.cut u.pre hs.len e1) ⟨a,vs,rfl,?_,na,h1,VRs.cut et e2 k1⟩
    cases eH:H a with
    | none=>rfl
    | some o=>exact absurd (List.mem_of_getElem? ea) (u.fr a o eH na).2
   | non=>exact ho.elim
   | bl b=>exact ho.elim
   | int b=>exact ho.elim
   | str b=>exact ho.elim
   | tup b=>exact ho.elim
   | sq b=>exact ho.elim
end
end Mm
namespace Mm
open PySem L2
section
variable {T:Tx}{XE:XEt}{X:Cx}{pos:Pos}
theorem hereB {ρ:List Addr}{H:Hp}{b:Bool}{s:S}{Q:Bool->Hp->Prop}(h:Out T XE rB ρ H (.ok b s) Q) (sr:SR T ρ s H):Q b H:=h ρ H b .refl sr rfl
def truth (v:AV)(s:S):Option Bool:=match v with
 | .non=>some false
 | .bl b=>some b
 | .int i=>some (i != 0)
 | .str x=>if x.length<=sizeLine then some ((x.length:Int) != 0) else none
 | .tup xs=>some (!xs.isEmpty)
 | .sq xs=>some (!xs.isEmpty)
 | .ref i=>match s[i]? with
  | some (.lst xs)=>some (!xs.isEmpty)
  | some (.dK xs)=>some (!xs.isEmpty)
  | _=>none
theorem VRs.emp {ρ:List Addr}{H:Hp}{l:List AV}{xs:List V}(h:VRs T ρ H l xs):l.isEmpty=xs.isEmpty:=by
 cases l with
 | nil=>cases h.nil_inv;rfl
 | cons a r=>obtain⟨x,ys,rfl,_⟩:=h.cons_inv;rfl
theorem truth_inv {ρ:List Addr}{H:Hp}{s:S}{v:AV}{b:Bool}{x:V}(h:truth v s=some b)(sr:SR T ρ s H)(va:VR T ρ H v x):TruV T.K x H b:=by
 cases v with
 | non=>cases va.non_inv;cases h;rfl
 | bl c=>cases va.bl_inv;cases h;rfl
 | int c=>cases va.int_inv;cases h;rfl
 | str c=>
  cases va.str_inv
  have h:(if c.length<=sizeLine then some ((c.length:Int) != 0) else none)=some b:=h
  split at h
  ·cases h;exact⟨by assumption,rfl⟩
  ·cases h
 | tup c=>
  obtain⟨a,vs,rfl,h1,k⟩:=va.tup_inv
  cases h
  exact .inr (.inl ⟨vs,h1,by rw[k.emp]⟩)
 | sq c=>
  obtain⟨a,vs,rfl,h1,k⟩:=va.sq_inv
  cases h
  exact .inl ⟨vs,h1.sqL,by rw[k.emp]⟩
 | ref i=>
  have h:(match s[i]? with
   | some (.lst xs)=>some (!xs.isEmpty)
   | some (.dK xs)=>some (!xs.isEmpty)
   | _=>none)=some b:=h
  split at h
  ·rename_i xs e
   cases h
   obtain⟨a,vs,rfl,_,h1,k⟩:=sr.lstAt e va
   exact .inl ⟨vs,SqL.of h1,by rw[k.emp]⟩
  ·rename_i xs e
   cases h
   obtain⟨a,vs,rfl,_,h1,k1,k⟩:=sr.dKAt e va
   refine .inr (.inr ⟨vs,h1,?_⟩)
   have:=congrArg List.length k1
   rw[List.length_map,List.length_map]at this
   cases xs<;>cases vs<;>first|rfl|(simp at this)
  ·cases h
def cT (m:Ev):Eb:=λ env s=>(m env s).bind λ v s1=>need (truth v s1) λ b=>.ok b s1
def cB (m:Ev):Eb:=λ env s=>(m env s).bind λ v s1=>match v with
 | .bl b=>.ok b s1
 | _=>.bad
theorem pt_t {e:Expr}{m:Ev}(hK:X.K=T.K)(h:PE X e (tE T XE m)) (he:∀ whole,isTrue e X.env whole=(do let v <-whole;standAt e.pos;holding [v] (truthy v)):=by intro _;rfl):PT X e (tC' T XE (cT m)):=
 PT.imp (pt_truth h he) λ σ H Q ⟨ρ,env,s,hs,he,ho⟩=>step hs he ho λ v s1 ρ1 H1 x _ u1 sr1 er1 vr1 ho1=>by
  obtain⟨b,e,ho1⟩:=ho1.needInv
  exact⟨b,by rw[hK];exact truth_inv e sr1 vr1,hereB ho1 sr1⟩
theorem tB_of {m:Ev}{σ:St}{H:Hp}{Q:Bool->Hp->Prop}(h:tC' T XE (cB m) σ H Q):tE T XE m σ H λ x H'=>∃ k,x=.bl k/\Q k H':=by
 obtain⟨ρ,env,s,hs,he,ho⟩:=h
 refine step hs he ho λ v s1 ρ1 H1 x _ u1 sr1 er1 vr1 ho1=>?_
 have vr1:VR T ρ1 H1 v x:=vr1
 cases v<;>try exact ho1.elim
 exact⟨_,vr1.bl_inv,hereB ho1 sr1⟩
theorem pt_cmp' {o:CmpOp}{op:AV->AV->S->R AV}{a b:Expr}{m1 m2:Ev}(hop:OpR X (compareOp o) (r2M T XE op)) (ha:PE X a (tE T XE m1)) (hb:PE X b (tE T XE m2)) (hm:behindInMarks o b=false:=by rfl):PT X (.Compare a [o] [b] pos) (tC' T XE (cB (mBin op m1 m2))):=
 PT.imp (pt_cmpR hop ha hb hm) λ σ H Q h=>t2 (tB_of h)
def mChain (op op':AV->AV->S->R AV)(a b c:Ev):Ev:=λ env s=>(a env s).bind λ v s1=>(b env s1).bind λ w s2=>(op v w s2).bind λ r s3=>match r with
 | .bl true=>(c env s3).bind λ z s4=>op' w z s4
 | .bl false=>.ok (.bl false) s3
 | _=>.bad
theorem t3 {op op':AV->AV->S->R AV}{a b c:Ev}{σ:St}{H:Hp}{Q:VK}(h:tE T XE (mChain op op' a b c) σ H Q):tChain (r2M T XE op) (r2M T XE op') (tE T XE a) (tE T XE b) (tE T XE c) σ H Q:=by
 obtain⟨ρ,env,s,hs,he,ho⟩:=h
 refine step hs he ho λ v s1 ρ1 H1 x _ u1 sr1 er1 vr1 ho1=>step sr1 er1 ho1 λ w s2 ρ2 H2 y _ u2 sr2 er2 vr2 ho2=>⟨ρ2,v,w,s2,sr2,VR.up u2 vr1,vr2,?_⟩
 cases e:op v w s2 with
 | bad=>rw[e]at ho2;exact ho2
 | ex c s3=>rw[e]at ho2;exact ho2
 | ok r s3=>
  rw[e]at ho2
  intro ρ3 H3 z u3 sr3 vr3
  have vr3:VR T ρ3 H3 r z:=vr3
  have ho2:=Out.up u3 ho2
  cases r<;>try exact ho2.elim
  rename_i k _ _
  refine⟨k,vr3.bl_inv,?_⟩
  cases k with
  | false=>rw[if_neg (by decide)];exact ho2.hereV sr3 vr_bl
  | true=>
   rw[if_pos rfl]
   exact step sr3 (er2.up u3) ho2 λ q s4 ρ4 H4 x4 _ u4 sr4 er4 vr4 ho4=>⟨ρ4,w,q,s4,sr4,VR.up (u3.trans u4) vr2,vr4,ho4⟩
theorem me_chain {o o':CmpOp}{op op':AV->AV->S->R AV}{a b c:Expr}{m1 m2 m3:Ev}(hop:OpR X (compareOp o) (r2M T XE op)) (hop':OpR X (compareOp o') (r2M T XE op')) (ha:PE X a (tE T XE m1)) (hb:PE X b (tE T XE m2)) (hc:PE X c (tE T XE m3))
  (hm:lastMarks [o,o'] [b,c]=false:=by with_unfolding_all rfl):PE X (.Compare a [o,o'] [b,c] pos) (tE T XE (mChain op op' m1 m2 m3)):=PE.imp (pe_chain hop hop' ha hb hc hm) λ _ _ _ h=>t3 h
theorem pt_chain' {o o':CmpOp}{op op':AV->AV->S->R AV}{a b c:Expr}{m1 m2 m3:Ev}(hop:OpR X (compareOp o) (r2M T XE op)) (hop':OpR X (compareOp o') (r2M T XE op')) (ha:PE X a (tE T XE m1)) (hb:PE X b (tE T XE m2)) (hc:PE X c (tE T XE m3))
  (hm:lastMarks [o,o'] [b,c]=false:=by with_unfolding_all rfl):PT X (.Compare a [o,o'] [b,c] pos) (tC' T XE (cB (mChain op op' m1 m2 m3))):=PT.imp (pt_chain hop hop' ha hb hc hm) λ σ H Q h=>t3 (tB_of h)
def cAnd (a b:Eb):Eb:=λ env s=>(a env s).bind λ c s1=>if c=true then b env s1 else .ok false s1
def cOr (a b:Eb):Eb:=λ env s=>(a env s).bind λ c s1=>if c=true then .ok true s1 else b env s1
def cNot (a:Eb):Eb:=λ env s=>(a env s).bind λ c s1=>.ok (!c) s1
def mIf (c:Eb)(a b:Ev):Ev:=λ env s=>(c env s).bind λ k s1=>if k=true then a env s1 else b env s1
theorem pw_and1' {a:Expr}{m:Eb}(h:PT X a (tC' T XE m)):PW X (.BoolOp .And [a] pos) (tC' T XE m):=pw_and1 h
theorem pw_or1' {a:Expr}{m:Eb}(h:PT X a (tC' T XE m)):PW X (.BoolOp .Or [a] pos) (tC' T XE m):=pw_or1 h
theorem pw_and' {a b:Expr}{rest:List Expr}{m r:Eb}(h:PT X a (tC' T XE m)) (k:PW X (.BoolOp .And (b :: rest) pos) (tC' T XE r)):PW X (.BoolOp .And (a :: b :: rest) pos) (tC' T XE (cAnd m r)):=
 PW.imp (pw_and h k) λ σ H Q ⟨ρ,env,s,hs,he,ho⟩=>step hs he ho λ v s1 ρ1 H1 x _ u1 sr1 er1 vr1 ho1=>by
  cases (show v=x from vr1)
  cases v with
  | true=>exact⟨ρ1,env,s1,sr1,er1,ho1⟩
  | false=>exact hereB ho1 sr1
theorem pw_or' {a b:Expr}{rest:List Expr}{m r:Eb}(h:PT X a (tC' T XE m)) (k:PW X (.BoolOp .Or (b :: rest) pos) (tC' T XE r)):PW X (.BoolOp .Or (a :: b :: rest) pos) (tC' T XE (cOr m r)):=
 PW.imp (pw_or h k) λ σ H Q ⟨ρ,env,s,hs,he,ho⟩=>step hs he ho λ v s1 ρ1 H1 x _ u1 sr1 er1 vr1 ho1=>by
  cases (show v=x from vr1)
  cases v with
  | true=>exact hereB ho1 sr1
  | false=>exact⟨ρ1,env,s1,sr1,er1,ho1⟩
theorem pt_not' {a:Expr}{m:Eb}(h:PT X a (tC' T XE m)):PT X (.UnaryOp .Not a pos) (tC' T XE (cNot m)):=
 PT.imp (pt_not h) λ σ H Q ⟨ρ,env,s,hs,he,ho⟩=>step hs he ho λ v s1 ρ1 H1 x _ u1 sr1 er1 vr1 ho1=>by
  cases (show v=x from vr1)
  exact hereB ho1 sr1
theorem me_if {c a b:Expr}{mc':Eb}{ma mb:Ev}(hc:PT X c (tC' T XE mc')) (ha:PE X a (tE T XE ma)) (hb:PE X b (tE T XE mb)):PE X (.IfExp c a b pos) (tE T XE (mIf mc' ma mb)):=
 PE.imp (pe_ifExp hc ha hb) λ σ H Q ⟨ρ,env,s,hs,he,ho⟩=>step hs he ho λ v s1 ρ1 H1 x _ u1 sr1 er1 vr1 ho1=>by
  cases (show v=x from vr1)
  cases v with
  | true=>exact⟨ρ1,env,s1,sr1,er1,ho1⟩
  | false=>exact⟨ρ1,env,s1,sr1,er1,ho1⟩
def mAnd (a b:Ev):Ev:=λ env s=>(a env s).bind λ v s1=>match v with
 | .bl true=>b env s1
 | .bl false=>.ok (.bl false) s1
 | _=>.bad
def mOr (a b:Ev):Ev:=λ env s=>(a env s).bind λ v s1=>match v with
 | .bl true=>.ok (.bl true) s1
 | .bl false=>b env s1
 | _=>.bad
def opNot:AV->S->R AV
 | .bl b,s=>.ok (.bl (!b)) s
 | _,_=>.bad
theorem me_one {op:BoolOp}{a:Expr}{m:Ev}(h:PE X a (tE T XE m)):PE X (.BoolOp op [a] pos) (tE T XE m):=pe_one h
theorem me_and {a b:Expr}{rest:List Expr}{m r:Ev}(h:PE X a (tE T XE m)) (k:PE X (.BoolOp .And (b :: rest) pos) (tE T XE r)):PE X (.BoolOp .And (a :: b :: rest) pos) (tE T XE (mAnd m r)):=
 PE.imp (pe_and h k) λ σ H Q ⟨ρ,env,s,hs,he,ho⟩=>step hs he ho λ v s1 ρ1 H1 x _ u1 sr1 er1 vr1 ho1=>by
  have vr1:VR T ρ1 H1 v x:=vr1
  cases v<;>try exact ho1.elim
  rename_i b _ _
  refine⟨b,vr1.bl_inv,?_⟩
  cases b with
  | true=>exact⟨ρ1,env,s1,sr1,er1,ho1⟩
  | false=>exact ho1.hereV sr1 vr_bl
theorem me_not {a:Expr}{m:Ev}(h:PE X a (tE T XE m)):PE X (.UnaryOp .Not a pos) (tE T XE (mUn opNot m)):=
 PE.imp (pe_not h) λ σ H Q ⟨ρ,env,s,hs,he,ho⟩=>step hs he ho λ v s1 ρ1 H1 x _ u1 sr1 er1 vr1 ho1=>by
  have vr1:VR T ρ1 H1 v x:=vr1
  cases v<;>try exact ho1.elim
  exact⟨_,vr1.bl_inv,ho1.hereV sr1 vr_bl⟩
theorem VRs.atI {ρ:List Addr}{H:Hp}{l:List AV}{xs:List V}{i:Int}{v:AV}(h:VRs T ρ H l xs)(e:atI l i=some v):∃ x,L2.atI xs i=some x/\VR T ρ H v x:=by
 unfold L2.atI at *
 rw[<-h.length]
 cases e1:ixN l.length i with
 | none=>rw[e1]at e;cases e
 | some j=>rw[e1]at e;exact h.get e
def opIx:AV->AV->S->R AV
 | .tup xs,.int i,s=>need (atI xs i) λ v=>.ok v s
 | .sq xs,.int i,s=>need (atI xs i) λ v=>.ok v s
 | .ref k,.int i,s=>need (lstO s k) λ xs=>need (atI xs i) λ v=>.ok v s
 | .str z,.int i,s=>if z.length<=sizeLine then need (atI z.cps.toList i) λ c=>.ok (.str ⟨#[c]⟩) s else .bad
 | _,_,_=>.bad
theorem oIx (hK:X.K=T.K):IxR X (r2M T XE opIx):=by
 intro value slice pins s σ H x y v u Q I rx ry ⟨ρ,a,b,st,sr,va,vb,ho⟩ hs
 cases a<;>cases b<;>try exact ho.elim
 ·obtain⟨hl,ho⟩:=ho.ifInv
  obtain⟨c,e,ho⟩:=ho.needInv
  exact ix_str value slice pins s σ H x y v u Q I rx ry ⟨_,_,c,va.str_inv,vb.int_inv,hl,e,ho.hereV sr vr_str⟩ hs
 ·obtain⟨c,e,ho⟩:=ho.needInv
  obtain⟨p,vs,rfl,h1,k⟩:=va.tup_inv
  obtain⟨z,e2,k2⟩:=k.atI e
  exact ix_tup value slice pins s σ H _ y v u Q I rx ry ⟨p,vs,_,z,rfl,vb.int_inv,hK ▸ h1,e2,ho.hereV sr k2⟩ hs
 ·obtain⟨xs,e0,ho⟩:=ho.needInv
  obtain⟨c,e,ho⟩:=ho.needInv
  obtain⟨p,vs,rfl,_,h1,k⟩:=sr.lstAt (lstO_inv e0) va
  obtain⟨z,e2,k2⟩:=k.atI e
  exact ix_list value slice pins s σ H _ y v u Q I rx ry ⟨p,vs,_,z,rfl,vb.int_inv,SqL.of h1,e2,ho.hereV sr k2⟩ hs
 ·obtain⟨c,e,ho⟩:=ho.needInv
  obtain⟨p,vs,rfl,h1,k⟩:=va.sq_inv
  obtain⟨z,e2,k2⟩:=k.atI e
  exact ix_list value slice pins s σ H _ y v u Q I rx ry ⟨p,vs,_,z,rfl,vb.int_inv,hK ▸ h1.sqL,e2,ho.hereV sr k2⟩ hs
abbrev Eo:=En->S->R (Option Int)
def rO:Rl (Option Int) (Option Int):=⟨λ _ _ _ a b=>a=b,λ _ h=>h⟩
abbrev tO (T:Tx)(XE:XEt)(m:Eo):TO:=tG T XE rO m
def oN:Eo:=λ _ s=>.ok none s
def oS (m:Ev):Eo:=λ env s=>(m env s).bind λ v s1=>match v with
 | .int i=>.ok (some i) s1
 | _=>.bad
theorem PO.imp {e:Option Expr}{t t':TO}(h:PO X e t)(k:∀ σ H Q,t' σ H Q->t σ H Q):PO X e t':=λ pins s σ H Q I hq=>h pins s σ H Q I (k σ H Q hq)
theorem po_none':PO X none (tO T XE oN):=PO.imp po_none λ σ H Q ⟨ρ,env,s,hs,he,ho⟩=>ho ρ H none .refl hs rfl
theorem po_some' {e:Expr}{m:Ev}(h:PE X e (tE T XE m)):PO X (some e) (tO T XE (oS m)):=
 PO.imp (po_some h) λ σ H Q ⟨ρ,env,s,hs,he,ho⟩=>step hs he ho λ v s1 ρ1 H1 x _ u1 sr1 er1 vr1 ho1=>by
  have vr1:VR T ρ1 H1 v x:=vr1
  cases v<;>try exact ho1.elim
  exact⟨_,vr1.int_inv,ho1 ρ1 H1 (some _) .refl sr1 rfl⟩
def cutA {α:Type}(xs:List α)(lo hi:Option Int):List α:=(xs.drop (HT.sIx xs.length 0 lo)).take (HT.sIx xs.length xs.length hi - HT.sIx xs.length 0 lo)
theorem VRs.cutA {ρ:List Addr}{H:Hp}{l:List AV}{xs:List V}(h:VRs T ρ H l xs)(lo hi:Option Int):VRs T ρ H (cutA l lo hi) (cutV xs lo hi):=by
 unfold Mm.cutA cutV
 rw[h.length]
 exact(h.drop _).take _
def opSl (v:AV)(lo hi:Option Int)(s:S):R AV:=match v with
 | .tup xs=>.ok (.tup (cutA xs lo hi)) s
 | .ref i=>need (lstO s i) λ xs=>.ok (.ref s.length) (s++[.lst (cutA xs lo hi)])
 | .sq xs=>.ok (.ref s.length) (s++[.lst (cutA xs lo hi)])
 | _=>.bad
def rSM (T:Tx)(XE:XEt):V->Option Int->Option Int->Hp->VK->Prop:=λ x lo hi H Q=>∃ ρ v s,SR T ρ s H/\VR T ρ H v x/\Out T XE (rV T) ρ H (opSl v lo hi s) Q
theorem cut_all {xs:List V}{lo hi:Option Int}(h:HT.sIx xs.length 0 lo=0/\HT.sIx xs.length xs.length hi=xs.length):cutV xs lo hi=xs:=by
 unfold cutV
 rw[h.1,h.2,Nat.sub_zero,List.drop_zero,List.take_length]
theorem oSl (hK:X.K=T.K):SlR X (rSM T XE):=by
 intro pins s σ H x v vl vu lo hi sl Q I rx hs pl pu ⟨ρ,a,st,sr,va,ho⟩
 cases a<;>try exact ho.elim
 ·obtain⟨p,vs,rfl,h1,k⟩:=va.tup_inv
  refine sl_tup2 pins s σ H _ v vl vu lo hi sl Q I rx hs pl pu ⟨p,vs,rfl,hK ▸ h1,λ hw=>?_,λ _ q hq=>ho.tup sr hq (k.cutA lo hi)⟩
  have:=k.cutA lo hi
  rw[cut_all hw]at this
  exact ho.hereV sr (vr_tup h1 this)
 ·obtain⟨xs,e0,ho⟩:=ho.needInv
  obtain⟨p,vs,rfl,_,h1,k⟩:=sr.lstAt (lstO_inv e0) va
  exact sl_list pins s σ H _ v vl vu lo hi sl Q I rx hs pl pu ⟨p,vs,rfl,SqL.of h1,λ q hq=>ho.alloc sr hq (OR.lst upd_same (VRs.gr ((sr.upNew hq).add hq).toGr (k.cutA lo hi)))⟩
 ·obtain⟨p,vs,rfl,h1,k⟩:=va.sq_inv
  exact sl_list pins s σ H _ v vl vu lo hi sl Q I rx hs pl pu ⟨p,vs,rfl,hK ▸ h1.sqL,λ q hq=>ho.alloc sr hq (OR.lst upd_same (VRs.gr ((sr.upNew hq).add hq).toGr (k.cutA lo hi)))⟩
def mSl (m:Ev)(lo hi:Eo):Ev:=λ env s=>(m env s).bind λ v s1=>(lo env s1).bind λ l s2=>(hi env s2).bind λ h s3=>opSl v l h s3
theorem me_sl {e:Expr}{lo hi:Option Expr}{p2:Pos}{m:Ev}{ml mh:Eo}(hK:X.K=T.K)(he:PE X e (tE T XE m)) (hl:PO X lo (tO T XE ml)) (hh:PO X hi (tO T XE mh)):PE X (.Subscript e (.Slice lo hi none p2) pos) (tE T XE (mSl m ml mh)):=
 PE.imp (pe_slice (oSl (XE:=XE) hK) he hl hh) λ σ H Q ⟨ρ,env,s,hs,he,ho⟩=>
  step hs he ho λ v s1 ρ1 H1 x _ u1 sr1 er1 vr1 ho1=>step sr1 er1 ho1 λ l s2 ρ2 H2 l' _ u2 sr2 er2 e2 ho2=>step sr2 er2 ho2 λ h s3 ρ3 H3 h' _ u3 sr3 er3 e3 ho3=>by
   cases (show l=l' from e2)
   cases (show h=h' from e3)
   exact⟨ρ3,v,s3,sr3,VR.up (u2.trans u3) vr1,ho3⟩
end
end Mm
namespace Mm
open PySem L2
abbrev Ms:=En->S->RS
def R.bindS {α:Type}:R α->(α->S->RS)->RS
 | .ok a s,f=>f a s
 | .ex c s,_=>.ex c s
 | .bad,_=>.bad
@[simp] theorem bindS_ok {α:Type}(a:α) (s:S) (f:α->S->RS):(R.ok a s).bindS f=f a s:=rfl
def OutS (T:Tx)(XE:XEt)(ρ:List Addr)(H:Hp):RS->Ends->Prop
 | .nx e s,D=>∀ ρ' H' σ',Up ρ H ρ' H'->SR T ρ' s H'->ER T ρ' H' e σ'->D.nx σ' H'
 | .rt v s,D=>∀ ρ' H' x,Up ρ H ρ' H'->SR T ρ' s H'->VR T ρ' H' v x->D.rt x H'
 | .bk e s,D=>∀ ρ' H' σ',Up ρ H ρ' H'->SR T ρ' s H'->ER T ρ' H' e σ'->D.bk σ' H'
 | .ct e s,D=>∀ ρ' H' σ',Up ρ H ρ' H'->SR T ρ' s H'->ER T ρ' H' e σ'->D.ct σ' H'
 | .ex c s,_=>∀ ρ' H',Up ρ H ρ' H'->SR T ρ' s H'->XE c ρ' s H'
 | .bad,_=>False
theorem OutS.up {T:Tx}{XE:XEt}{ρ ρ':List Addr}{H H':Hp}{r:RS}{D:Ends}(u:Up ρ H ρ' H')(h:OutS T XE ρ H r D):OutS T XE ρ' H' r D:=by
 cases r with
 | nx e s=>exact λ ρ2 H2 x u2 sr vr=>h ρ2 H2 x (u.trans u2) sr vr
 | rt e s=>exact λ ρ2 H2 x u2 sr vr=>h ρ2 H2 x (u.trans u2) sr vr
 | bk e s=>exact λ ρ2 H2 x u2 sr vr=>h ρ2 H2 x (u.trans u2) sr vr
 | ct e s=>exact λ ρ2 H2 x u2 sr vr=>h ρ2 H2 x (u.trans u2) sr vr
 | ex c s=>exact λ ρ2 H2 u2 sr=>h ρ2 H2 (u.trans u2) sr
 | bad=>exact h
def tS (T:Tx)(XE:XEt)(m:Ms):TS:=λ D σ H=>∃ ρ env s,SR T ρ s H/\ER T ρ H env σ/\OutS T XE ρ H (m env s) D
section
variable {T:Tx}{XE:XEt}{X:Cx}{pos:Pos}
theorem stepS {α β:Type}{rl:Rl α β}{ρ:List Addr}{env:En}{s:S}{σ:St}{H:Hp}{m:En->S->R α}{k:α->S->RS}{D:Ends}{F:β->Hp->Prop}
  (hs:SR T ρ s H) (he:ER T ρ H env σ) (ho:OutS T XE ρ H ((m env s).bindS k) D)
  (hk:∀ v s1 ρ1 H1 x,m env s=.ok v s1->Up ρ H ρ1 H1->SR T ρ1 s1 H1->ER T ρ1 H1 env σ->rl.r H ρ1 H1 v x->OutS T XE ρ1 H1 (k v s1) D->F x H1):tG T XE rl m σ H F:=by
 refine⟨ρ,env,s,hs,he,?_⟩
 cases e:m env s with
 | ok v s1=>
  rw[e]at ho
  exact λ ρ1 H1 x u sr vr=>hk v s1 ρ1 H1 x e u sr (he.up u) vr (OutS.up u ho)
 | ex c s1=>rw[e]at ho;exact ho
 | bad=>rw[e]at ho;exact ho
def sSkip:Ms:=λ env s=>.nx env s
def sSeq (a b:Ms):Ms:=λ env s=>match a env s with
 | .nx e s1=>b e s1
 | r=>r
theorem mss_nil:PSs X [] (tS T XE sSkip):=PSs.imp pss_nil λ D σ H ⟨ρ,env,s,hs,he,ho⟩=>ho ρ H σ .refl hs he
theorem mss_cons {st:Stmt}{rest:List Stmt}{a b:Ms}(h1:PS X st (tS T XE a)) (h2:PSs X rest (tS T XE b)):PSs X (st :: rest) (tS T XE (sSeq a b)):=
 PSs.imp (pss_cons h1 h2) λ D σ H ⟨ρ,env,s,hs,he,ho⟩=>by
  refine⟨ρ,env,s,hs,he,?_⟩
  unfold sSeq at ho
  cases e:a env s with
  | nx e1 s1=>rw[e]at ho;exact λ ρ2 H2 x u sr er=>⟨ρ2,e1,s1,sr,er,OutS.up u ho⟩
  | rt v s1=>rw[e]at ho;exact ho
  | bk v s1=>rw[e]at ho;exact ho
  | ct v s1=>rw[e]at ho;exact ho
  | ex v s1=>rw[e]at ho;exact ho
  | bad=>rw[e]at ho;exact ho
theorem mss_one {st:Stmt}{a:Ms}(h1:PS X st (tS T XE a)):PSs X [st] (tS T XE a):=pss_one h1
def sExpr (m:Ev):Ms:=λ env s=>(m env s).bindS λ _ s1=>.nx env s1
theorem ms_expr {e:Expr}{m:Ev}(h:PE X e (tE T XE m)) (hs:swapsWith e none pos.line X.env=pure false:=by rfl):PS X (.Expr e pos) (tS T XE (sExpr m)):=
 PS.imp (ps_expr h hs) λ D σ H ⟨ρ,env,s,hs,he,ho⟩=>stepS hs he ho λ v s1 ρ1 H1 x _ u1 sr1 er1 vr1 ho1=>ho1 ρ1 H1 σ .refl sr1 er1
def sRet (m:Ev):Ms:=λ env s=>(m env s).bindS λ v s1=>.rt v s1
theorem ms_ret {e:Expr}{m:Ev}(h:PE X e (tE T XE m)):PS X (.Return (some e) pos) (tS T XE (sRet m)):=
 PS.imp (ps_ret h) λ D σ H ⟨ρ,env,s,hs,he,ho⟩=>stepS hs he ho λ v s1 ρ1 H1 x _ u1 sr1 er1 vr1 ho1=>ho1 ρ1 H1 x .refl sr1 vr1
def sIf (c:Eb)(a b:Ms):Ms:=λ env s=>(c env s).bindS λ k s1=>if k=true then a env s1 else b env s1
theorem ms_if {c:Expr}{a b:List Stmt}{mc':Eb}{ma mb:Ms}(hc:PT X c (tC' T XE mc')) (ha:PSs X a (tS T XE ma)) (hb:PSs X b (tS T XE mb)):PS X (.If c a b pos) (tS T XE (sIf mc' ma mb)):=
 PS.imp (ps_if hc ha hb) λ D σ H ⟨ρ,env,s,hs,he,ho⟩=>stepS hs he ho λ v s1 ρ1 H1 x _ u1 sr1 er1 vr1 ho1=>by
  cases (show v=x from vr1)
  cases v with
  | true=>exact⟨ρ1,env,s1,sr1,er1,ho1⟩
  | false=>exact⟨ρ1,env,s1,sr1,er1,ho1⟩
def sSet (i:Nat)(m:Ev):Ms:=λ env s=>(m env s).bindS λ v s1=>.nx (env.set i (some v)) s1
theorem asg_of {i:Nat}{m:Ev}{D:Ends}{σ:St}{H:Hp}(h:tS T XE (sSet i m) D σ H):tAsg (tE T XE m) (gName i) D σ H:=by
 obtain⟨ρ,env,s,hs,he,ho⟩:=h
 exact stepS hs he ho λ v s1 ρ1 H1 x _ u1 sr1 er1 vr1 ho1=>ho1 ρ1 H1 _ .refl sr1 (er1.set vr1)
theorem ms_set {i:Nat}{x:Str}{e:Expr}{m:Ev}{pos':Pos}(hN:X.N.Nodup)(he:PE X e (tE T XE m)) (hi:X.N[i]? = some x:=by rfl)(hx:Loc X.env.scope x:=by first|exact Or.inl rfl|exact Or.inr rfl)(hs:swapsWith e (some (.Name x pos')) pos.line X.env=pure false:=by rfl) (hf:X.fn x=true∨X.env.scope.names.lookup x=some .local:=by first|exact .inl rfl|exact .inr rfl|assumption) :
  PS X (.Assign [.Name x pos'] e pos) (tS T XE (sSet i m)):=PS.imp (ps_set hN hi hx he hs hf) λ D σ H h=>asg_of h
abbrev Mt:=AV->En->S->RS
abbrev Mts:=List AV->En->S->RS
def endQ (Q:St->Hp->Prop):Ends:={ nx:=Q,rt:=λ _ _=>False }
def tT (T:Tx)(XE:XEt)(m:Mt):TG:=λ x σ H Q=>∃ ρ env s v,SR T ρ s H/\ER T ρ H env σ/\VR T ρ H v x/\OutS T XE ρ H (m v env s) (endQ Q)
def tTs (T:Tx)(XE:XEt)(m:Mts):TGs:=λ xs σ H Q=>∃ ρ env s vs,SR T ρ s H/\ER T ρ H env σ/\VRs T ρ H vs xs/\OutS T XE ρ H (m vs env s) (endQ Q)
def gN (i:Nat):Mt:=λ v env s=>.nx (env.set i (some v)) s
def gNil':Mts:=λ vs env s=>match vs with
 | []=>.nx env s
 | _=>.bad
def gCons' (a:Mt)(r:Mts):Mts:=λ vs env s=>match vs with
 | v :: w=>match a v env s with
  | .nx e s1=>r w e s1
  | q=>q
 | _=>.bad
def gT (n:Nat)(r:Mts):Mt:=λ v env s=>match v with
 | .tup vs=>if vs.length=n then r vs env s else .bad
 | _=>.bad
theorem mg_name {i:Nat}{x:Str}(hN:X.N.Nodup)(hi:X.N[i]? = some x:=by rfl)(hx:Loc X.env.scope x:=by first|exact Or.inl rfl|exact Or.inr rfl)(hf:X.fn x=true∨X.env.scope.names.lookup x=some .local:=by first|exact .inl rfl|exact .inr rfl|assumption):PG X (.Name x pos) (tT T XE (gN i)):=
 PG.imp (pg_name hN hi hx hf) λ x σ H Q ⟨ρ,env,s,v,hs,he,vr,ho⟩=>ho ρ H _ .refl hs (he.set vr)
theorem mgs_nil:PGs X [] (tTs T XE gNil'):=PGs.imp pgs_nil λ xs σ H Q ⟨ρ,env,s,vs,hs,he,vr,ho⟩=>by
 cases vs with
 | nil=>exact⟨vr.nil_inv,ho ρ H _ .refl hs he⟩
 | cons a r=>exact ho.elim
theorem mgs_cons {e:Expr}{es:List Expr}{a:Mt}{r:Mts}(h1:PG X e (tT T XE a)) (h2:PGs X es (tTs T XE r)) (hs:(assignEach (e :: es) X.env).map (·.2)=assign e X.env :: (assignEach es X.env).map (·.2):=by rfl):PGs X (e :: es) (tTs T XE (gCons' a r)):=
 PGs.imp (pgs_cons h1 h2 hs) λ xs σ H Q ⟨ρ,env,s,vs,hs,he,vr,ho⟩=>by
  cases vs with
  | nil=>exact ho.elim
  | cons v w=>
   obtain⟨x,ys,rfl,k1,k2⟩:=vr.cons_inv
   refine⟨x,ys,rfl,ρ,env,s,v,hs,he,k1,?_⟩
   unfold gCons' at ho
   cases e:a v env s with
   | nx e1 s1=>simp only[e]at ho;exact λ ρ2 H2 x u sr er=>⟨ρ2,e1,s1,w,sr,er,k2.up u,OutS.up u ho⟩
   | rt v s1=>simp only[e]at ho;exact ho
   | bk v s1=>simp only[e]at ho;exact λ ρ2 H2 x u sr er=>ho ρ2 H2 x u sr er
   | ct v s1=>simp only[e]at ho;exact λ ρ2 H2 x u sr er=>ho ρ2 H2 x u sr er
   | ex v s1=>simp only[e]at ho;exact ho
   | bad=>simp only[e]at ho;exact ho
theorem mg_tup {es:List Expr}{k:Nat}{r:Mts}{n:Nat}(hK:X.K=T.K)(hc:X.calm=true)(h:PGs X es (tTs T XE r)) (hn:(assignEach es X.env).length=n:=by rfl) (hst:(assignEach es X.env).findIdx? (·.1)=none:=by rfl):PG X (.Tuple es k pos) (tT T XE (gT n r)):=
 PG.imp (pg_tup hc h hn hst) λ x σ H Q ⟨ρ,env,s,v,hs,he,vr,ho⟩=>by
  obtain⟨vs,rfl⟩:∃ vs,v=.tup vs:=by
   cases v with
   | tup vs=>exact⟨vs,rfl⟩
   | _=>exact ho.elim
  obtain⟨a,ws,rfl,h1,k1⟩:=vr.tup_inv
  have ho:OutS T XE ρ H (if vs.length=n then r vs env s else .bad) (endQ Q):=ho
  by_cases hl:vs.length=n
  ·rw[if_pos hl]at ho
   exact⟨a,ws,rfl,hK ▸ h1,by rw[<-k1.length];exact hl,ρ,env,s,vs,hs,he,k1,ho⟩
  ·rw[if_neg hl]at ho;exact ho.elim
def sAsg (m:Ev)(g:Mt):Ms:=λ env s=>(m env s).bindS λ v s1=>g v env s1
def GoesOn (g:Mt):Prop:=∀ v env s,(∃ e s1,g v env s=.nx e s1)∨(∃ c s1,g v env s=.ex c s1)∨g v env s=.bad
def GoesOns (g:Mts):Prop:=∀ v env s,(∃ e s1,g v env s=.nx e s1)∨(∃ c s1,g v env s=.ex c s1)∨g v env s=.bad
theorem on_name {i:Nat}:GoesOn (gN i):=λ v env s=>.inl ⟨_,_,rfl⟩
theorem on_nil:GoesOns gNil':=λ v env s=>by
 cases v with
 | nil=>exact .inl ⟨_,_,rfl⟩
 | cons a r=>exact .inr (.inr rfl)
theorem on_cons {a:Mt}{r:Mts}(h:GoesOn a)(k:GoesOns r):GoesOns (gCons' a r):=λ v env s=>by
 cases v with
 | nil=>exact .inr (.inr rfl)
 | cons x w=>
  rcases h x env s with⟨e,s1,q⟩|⟨e,s1,q⟩|q
  ·have:gCons' a r (x :: w) env s=r w e s1:=by unfold gCons';simp only[q]
   rw[this];exact k w e s1
  ·have:gCons' a r (x :: w) env s=.ex e s1:=by unfold gCons';simp only[q]
   exact .inr (.inl ⟨_,_,this⟩)
  ·have:gCons' a r (x :: w) env s=.bad:=by unfold gCons';simp only[q]
   exact .inr (.inr this)
theorem on_tup {n:Nat}{r:Mts}(k:GoesOns r):GoesOn (gT n r):=λ v env s=>by
 cases v<;>try exact .inr (.inr rfl)
 rename_i vs
 by_cases hl:vs.length=n
 ·have:gT n r (.tup vs) env s=r vs env s:=if_pos hl
  rw[this];exact k vs env s
 ·have:gT n r (.tup vs) env s=.bad:=if_neg hl
  exact .inr (.inr this)
theorem GoesOn.out {g:Mt}(k:GoesOn g){ρ:List Addr}{H:Hp}{v:AV}{env:En}{s:S}{D:Ends}(h:OutS T XE ρ H (g v env s) D):OutS T XE ρ H (g v env s) (endQ D.nx):=by
 rcases k v env s with⟨e,s1,q⟩|⟨e,s1,q⟩|q<;>rw[q]at h ⊢<;>exact h
theorem ms_asg {tg e:Expr}{m:Ev}{g:Mt}(he:PE X e (tE T XE m)) (hg:PG X tg (tT T XE g)) (hon:GoesOn g)(hs:swapsWithSole [tg] e pos.line X.env=pure false:=by rfl)(hw:swappedStores [tg] e X.env=pure none:=by rfl)
  (h1:(assignEach [tg] X.env).map (·.2)=[assign tg X.env]:=by rfl):PS X (.Assign [tg] e pos) (tS T XE (sAsg m g)):=
 PS.imp (ps_asg he hg hs hw h1) λ D σ H ⟨ρ,env,s,hs,he,ho⟩=>stepS hs he ho λ v s1 ρ1 H1 x _ u1 sr1 er1 vr1 ho1=>⟨ρ1,env,s1,v,sr1,er1,vr1,hon.out ho1⟩
def sPar (i j:Nat)(r:Evs):Ms:=λ env s=>(r env s).bindS λ vs s1=>match vs with
 | [v,w]=>.nx ((env.set i (some v)).set j (some w)) s1
 | _=>.bad
theorem ms_par {i j:Nat}{x y:Str}{a b:Expr}{r:Evs}{px py pt:Pos}{kt k2:Nat}{pt2:Pos}(hc:X.calm=true)(hN:X.N.Nodup)(ha:PA X [a,b] (tP T XE r)) (hi:X.N[i]? = some x:=by rfl)(hj:X.N[j]? = some y:=by rfl)(hij:i≠j:=by decide)
  (hx:X.env.scope.names.lookup x=some .local:=by rfl) (hy:X.env.scope.names.lookup y=some .local:=by rfl)
  (hw:swappedStores [.Tuple [.Name x px,.Name y py] kt pt] (.Tuple [a,b] k2 pt2) X.env=pure (some [x,y]):=by rfl)
  (hs:swapsWithSole [.Tuple [.Name x px,.Name y py] kt pt] (.Tuple [a,b] k2 pt2) pos.line X.env=pure false:=by rfl) :
  PS X (.Assign [.Tuple [.Name x px,.Name y py] kt pt] (.Tuple [a,b] k2 pt2) pos) (tS T XE (sPar i j r)):=
 PS.imp (ps_par hc hN hi hj hij hx hy ha hw hs) λ D σ H ⟨ρ,env,s,hs,he,ho⟩=>stepS hs he ho λ v s1 ρ1 H1 x _ u1 sr1 er1 vr1 ho1=>by
  have vr1:VRs T ρ1 H1 v x:=vr1
  match v,vr1,ho1 with
  | [v,w],vr1,ho1=>
   obtain⟨x1,ys,rfl,k1,k2⟩:=vr1.cons_inv
   obtain⟨x2,ys,rfl,k4,k3⟩:=k2.cons_inv
   cases k3.nil_inv
   exact⟨x1,x2,rfl,ho1 ρ1 H1 _ .refl sr1 ((er1.set k1).set k4)⟩
  | [],_,ho1=>exact ho1.elim
  | [_],_,ho1=>exact ho1.elim
  | _ :: _ :: _ :: _,_,ho1=>exact ho1.elim
def whl (c:Eb)(b:Ms):Nat->En->S->RS
 | 0,_,_=>.bad
 | n+1,env,s=>(c env s).bindS λ k s1=>if k=true then (match b env s1 with
   | .nx e s2=>whl c b n e s2
   | .ct e s2=>whl c b n e s2
   | .bk e s2=>.nx e s2
   | r=>r) else .nx env s1
def sWhl (f:En->S->Nat)(c:Eb)(b:Ms):Ms:=λ env s=>whl c b (f env s) env s
theorem ms_whl {c:Expr}{body:List Stmt}{mc':Eb}{mb:Ms}(f:En->S->Nat)(hp:PassesOwn (model X.prog X.w) X.A X.env X.xe) (hc:PT X c (tC' T XE mc')) (hb:PSs X body (tS T XE mb)):PS X (.While c body [] pos) (tS T XE (sWhl f mc' mb)):=
 PS.imp (ps_while hp hc hb) λ D σ H ⟨ρ,env,s,hs,he,ho⟩=>by
  refine⟨λ n σ H=>∃ ρ env s,SR T ρ s H/\ER T ρ H env σ/\OutS T XE ρ H (whl mc' mb n env s) D,⟨f env s,ρ,env,s,hs,he,ho⟩,?_⟩
  rintro n σ H ⟨ρ,env,s,hs,he,ho⟩
  cases n with
  | zero=>exact ho.elim
  | succ n=>
   unfold whl at ho
   refine stepS hs he ho λ v s1 ρ1 H1 x _ u1 sr1 er1 vr1 ho1=>?_
   cases (show v=x from vr1)
   cases v with
   | false=>exact ho1 ρ1 H1 σ .refl sr1 er1
   | true=>
    refine⟨λ σ' H'=>∃ ρ env s,SR T ρ s H'/\ER T ρ H' env σ'/\OutS T XE ρ H' (whl mc' mb n env s) D,λ σ' H' h=>⟨n,Nat.lt_succ_self n,h⟩,ρ1,env,s1,sr1,er1,?_⟩
    simp only[if_pos]at ho1
    cases e:mb env s1 with
    | nx e2 s2=>simp only[e]at ho1;exact λ ρ2 H2 x u sr er=>⟨ρ2,e2,s2,sr,er,OutS.up u ho1⟩
    | ct e2 s2=>simp only[e]at ho1;exact λ ρ2 H2 x u sr er=>⟨ρ2,e2,s2,sr,er,OutS.up u ho1⟩
    | bk e2 s2=>simp only[e]at ho1;exact λ ρ2 H2 x u sr er=>ho1 ρ2 H2 x u sr er
    | rt v s2=>simp only[e]at ho1;exact ho1
    | ex v s2=>simp only[e]at ho1;exact ho1
    | bad=>simp only[e]at ho1;exact ho1
end
end Mm
namespace L2
open PySem PySem.Spec PyProof.Rows
theorem pi_seq {X:Cx}{tg l:Expr}{tl:TE}(hl:PE X l tl):PI X tg l (λ σ H R=>tl σ H λ x H1=>∃ a,x=.ref a/\(((∃ xs,SqL X.K H1 a xs)/\R (Itl X.K a) H1)∨((∃ xs,SqT X.K H1 a xs)/\R (Itt X.K a) H1))):=by
 intro pins s σ H R I h
 refine thn (hl pins s σ H _ I h) λ v s1 ⟨x,H1,I1,r1,q1⟩=>?_
 obtain⟨a,e,q⟩:=q1
 subst e
 cases r1
 rcases q with⟨⟨xs,hq⟩,q⟩|⟨⟨xs,hq⟩,q⟩
 ·obtain⟨its,rv,p,hz⟩:=I1.list hq
  refine wpAny_pyIter_list p.isList ?_
  refine⟨s1.heap.objs.size,[s1.heap.objs.size],_,_,H1,rfl,I1.kept (t':=s1.toks) λ b o e=>Heap.get?_push_of_some _ e,turn_list a _,⟨_,Heap.get?_push_size _ rfl,rfl,rfl⟩,λ b hb=>?_,q⟩
  have e:b=s1.heap.objs.size:=by simpa using hb
  subst e
  exact I1.fpOk (Nat.le_refl _) (I1.hok.fresh (Nat.le_refl _))
 ·obtain⟨its,rv,p,hz⟩:=I1.tuple hq
  refine wpAny_pyIter_tuple (show s1.heap.IsTuple a its.toArray from p) ?_
  refine⟨s1.heap.objs.size,[s1.heap.objs.size],_,_,H1,rfl,I1.kept (t':=s1.toks) λ b o e=>Heap.get?_push_of_some _ e,turn_tuple a _,⟨_,Heap.get?_push_size _ rfl,rfl,rfl⟩,λ b hb=>?_,q⟩
  have e:b=s1.heap.objs.size:=by simpa using hb
  subst e
  exact I1.fpOk (Nat.le_refl _) (I1.hok.fresh (Nat.le_refl _))
end L2
namespace Mm
open PySem L2
theorem Up.mod {ρ ρ':List Addr}{H H':Hp}{D:Addr}{o:HO}(u:Up ρ H ρ' H')(h:H D=none)(n:D∉ρ'):Up ρ H ρ' (upd H' D o):=
 ⟨⟨u.pre,λ b xs e=>by rw[upd_ne (ne_of_none e h)];exact u.tups b xs e,λ b p v e=>by rw[upd_ne (ne_of_none e h)];exact u.frzs b p v e⟩,λ b p e k=>⟨by rw[upd_ne (ne_of_none e h)];exact(u.fr b p e k).1,(u.fr b p e k).2⟩,λ b e=>by
  by_cases hb:b=D
  ·rw[hb];exact h
  ·rw[upd_ne hb]at e;exact u.live b e⟩
theorem grAt {ρ:List Addr}{H:Hp}{D:Addr}{xs:List V}{o:HO}(h:H D=some (.lst xs)):Gr ρ H ρ (upd H D o):=
 ⟨List.prefix_rfl,λ b ys e=>by rw[upd_ne (ne_of e h (by intro z;cases z))];exact e,λ b p v e=>by rw[upd_ne (ne_of e h (by intro z;cases z))];exact e⟩
theorem ER.gr {T:Tx}{ρ ρ':List Addr}{H H':Hp}{env:En}{σ:St}(h:ER T ρ H env σ)(u:Gr ρ H ρ' H'):ER T ρ' H' env σ:=
 ⟨h.len,λ i v e=>let ⟨x,e1,q⟩:=h.get i v e;⟨x,e1,q.gr u⟩⟩
abbrev Gd:=List (Nat × List AV)
def gOk (gs:Gd)(s:S):Prop:=∀ p∈gs,lstO s p.1=some p.2
theorem gOk_nil (s:S):gOk [] s ↔ True:=by simp[gOk]
theorem gOk_one (i:Nat)(xs:List AV)(s:S):gOk [(i,xs)] s ↔ lstO s i=some xs:=by simp[gOk]
structure Walks (T:Tx)(ρ:List Addr)(H:Hp)(xs:List AV)(gs:Gd)(J:It):Prop where
 turn:∀ ρ' s' H',Up ρ H ρ' H'->SR T ρ' s' H'->gOk gs s'->(∀ (j:Nat) (v:AV),xs[j]? = some v->J.go j H'/\∀ x H'',J.yld j H' x H''->Up ρ' H' ρ' H''/\SR T ρ' s' H''/\VR T ρ' H'' v x)/\J.stop xs.length H'
abbrev Src:=En->S->R (List AV × Gd)
def rW (T:Tx):Rl (List AV × Gd) It:=⟨λ _ ρ H p J=>Walks T ρ H p.1 p.2 J,λ _ h=>h⟩
abbrev tW (T:Tx)(XE:XEt)(m:Src):TI:=tG T XE (rW T) m
section
variable {T:Tx}{XE:XEt}{X:Cx}{pos:Pos}
theorem walk_list {K:PySem.W.Frag}{a:Addr}{H':Hp}{vs:List V}(h:H' a=some (.lst vs)∨SqF K H' a vs) {ρ':List Addr}{s':S}{xs:List AV}(sr:SR T ρ' s' H')(k:VRs T ρ' H' xs vs) :
  (∀ (j:Nat) (v:AV),xs[j]? = some v->(Itl K a).go j H'/\∀ x H'',(Itl K a).yld j H' x H''->Up ρ' H' ρ' H''/\SR T ρ' s' H''/\VR T ρ' H'' v x)/\(Itl K a).stop xs.length H':=by
 have hq:SqL K H' a vs:=by rcases h with h|h;exact SqL.of h;exact h.sqL
 refine⟨λ j v e=>?_,⟨vs,hq,by rw[k.length];exact Nat.le_refl _⟩⟩
 obtain⟨x,ex,kx⟩:=k.get e
 refine⟨⟨vs,x,hq,ex⟩,λ y H'' ⟨e1,e2⟩=>?_⟩
 subst e1
 have:=e2 vs hq
 rw[ex]at this
 cases this
 exact⟨.refl,sr,kx⟩
theorem walk_tup {K:PySem.W.Frag}{a:Addr}{H':Hp}{vs:List V}(hq:SqT K H' a vs){ρ':List Addr}{s':S}{xs:List AV}(sr:SR T ρ' s' H')(k:VRs T ρ' H' xs vs) :
  (∀ (j:Nat) (v:AV),xs[j]? = some v->(Itt K a).go j H'/\∀ x H'',(Itt K a).yld j H' x H''->Up ρ' H' ρ' H''/\SR T ρ' s' H''/\VR T ρ' H'' v x)/\(Itt K a).stop xs.length H':=by
 refine⟨λ j v e=>?_,⟨vs,hq,by rw[k.length];exact Nat.le_refl _⟩⟩
 obtain⟨x,ex,kx⟩:=k.get e
 refine⟨⟨vs,x,hq,ex⟩,λ y H'' ⟨e1,e2⟩=>?_⟩
 subst e1
 have:=e2 vs hq
 rw[ex]at this
 cases this
 exact⟨.refl,sr,kx⟩
def srcL (r:Evs):Src:=λ env s=>(r env s).bind λ xs s1=>.ok (xs,[]) s1
theorem mi_l {tg e:Expr}{r:Evs}(hK:X.K=T.K)(h:PE X e (tL T XE r)):PI X tg e (tW T XE (srcL r)):=
 PI.imp (pi_list h) λ σ H R ⟨ρ,env,s,hs,he,ho⟩=>by
  refine⟨ρ,env,s,hs,he,?_⟩
  unfold srcL at ho
  cases e:r env s with
  | bad=>rw[e]at ho;exact ho
  | ex c s1=>rw[e]at ho;exact ho
  | ok xs s1=>
   rw[e]at ho
   intro ρ1 H1 x u sr ⟨a,vs,e1,h0,h1,h2,k⟩
   subst e1
   refine⟨a,rfl,⟨vs,SqL.of h2⟩,ho ρ1 H1 _ u sr ⟨λ ρ' s' H' u' sr' _=>?_⟩⟩
   rw[hK]
   exact walk_list (.inl (u'.fr a _ h2 h1).1) sr' (k.up u')
def srcV' (m:Ev):Src:=λ env s=>(m env s).bind λ v s1=>match v with
 | .tup xs=>.ok (xs,[]) s1
 | .sq xs=>.ok (xs,[]) s1
 | .ref i=>need (lstO s1 i) λ xs=>.ok (xs,[(i,xs)]) s1
 | _=>.bad
theorem mi_v {tg e:Expr}{m:Ev}(hK:X.K=T.K)(h:PE X e (tE T XE m)):PI X tg e (tW T XE (srcV' m)):=
 PI.imp (pi_seq h) λ σ H R ⟨ρ,env,s,hs,he,ho⟩=>step hs he ho λ v s1 ρ1 H1 x _ u1 sr1 er1 vr1 ho1=>by
  have vr1:VR T ρ1 H1 v x:=vr1
  cases v with
  | tup xs=>
   obtain⟨a,vs,rfl,h1,k⟩:=vr1.tup_inv
   refine⟨a,rfl,.inr ⟨⟨vs,hK ▸ h1⟩,ho1 ρ1 H1 _ .refl sr1 ⟨λ ρ' s' H' u' sr' _=>?_⟩⟩⟩
   rw[hK]
   exact walk_tup (u'.sqT h1) sr' (k.up u')
  | sq xs=>
   obtain⟨a,vs,rfl,h1,k⟩:=vr1.sq_inv
   refine⟨a,rfl,.inl ⟨⟨vs,hK ▸ h1.sqL⟩,ho1 ρ1 H1 _ .refl sr1 ⟨λ ρ' s' H' u' sr' _=>?_⟩⟩⟩
   rw[hK]
   exact walk_list (.inr (u'.sqF h1)) sr' (k.up u')
  | ref i=>
   obtain⟨xs,e0,ho1⟩:=ho1.needInv
   obtain⟨a,vs,rfl,ea,h1,k⟩:=sr1.lstAt (lstO_inv e0) vr1
   refine⟨a,rfl,.inl ⟨⟨vs,SqL.of h1⟩,ho1 ρ1 H1 _ .refl sr1 ⟨λ ρ' s' H' u' sr' g=>?_⟩⟩⟩
   have e2:=(gOk_one i xs s').mp g
   obtain⟨b,ws,eb,_,h2,k2⟩:=sr'.lstAt (lstO_inv e2) (VR.up u' vr1)
   cases eb
   exact walk_list (.inl h2) sr' k2
  | non=>exact ho1.elim
  | bl b=>exact ho1.elim
  | int b=>exact ho1.elim
  | str b=>exact ho1.elim
def rngA (lo:Int)(n:Nat):List AV:=(List.range n).map λ(i:Nat)=>AV.int (lo+i)
theorem walk_rng {lo:Int}{n:Nat}{H':Hp}{ρ':List Addr}{s':S}(sr:SR T ρ' s' H') :
  (∀ (j:Nat) (v:AV),(rngA lo n)[j]? = some v->(Itr lo n).go j H'/\∀ x H'',(Itr lo n).yld j H' x H''->Up ρ' H' ρ' H''/\SR T ρ' s' H''/\VR T ρ' H'' v x)/\(Itr lo n).stop (rngA lo n).length H':=by
 have hl:(rngA lo n).length=n:=by simp[rngA]
 refine⟨λ j v e=>?_,by rw[hl];exact Nat.le_refl _⟩
 have hj:j < n:=by have:=(List.getElem?_eq_some_iff.mp e).1;rw[hl]at this;exact this
 refine⟨hj,λ y H'' ⟨e1,e2⟩=>?_⟩
 subst e1 e2
 have:(rngA lo n)[j]? = some (.int (lo+j)):=by simp[rngA,hj]
 rw[this]at e
 cases e
 exact⟨.refl,sr,vr_int⟩
def srcR (r:Evs):Src:=λ env s=>(r env s).bind λ vs s1=>match vs with
 | [.int j]=>if -(2 ^ 62)<=j/\j < 2 ^ 62 then .ok (rngA 0 j.toNat,[]) s1 else .bad
 | [.int i,.int j]=>if -(2 ^ 62)<=i/\i < 2 ^ 62/\-(2 ^ 62)<=j/\j < 2 ^ 62 then .ok (rngA i (j - i).toNat,[]) s1 else .bad
 | _=>.bad
theorem mi_r1 {tg a:Expr}{p:Pos}{m:Ev}(hm:X.mg "range"=none)(ha:PE X a (tE T XE m)) (hg:Gl X "range":=by rfl)(hs:starEach [a] X.env=[(false,eval a X.env)]:=by rfl):PI X tg (.Call (.Name "range" p) [a] [] pos) (tW T XE (srcR (pCons m pNil))):=
 PI.imp (pi_range1 hg hm (pa_cons' ha pa_nil' hs) hs) λ σ H R ⟨ρ,env,s,hs,he,ho⟩=>step hs he ho λ v s1 ρ1 H1 x e u1 sr1 er1 vr1 ho1=>by
  have vr1:VRs T ρ1 H1 v x:=vr1
  obtain⟨w,rfl⟩:∃ w,v=[w]:=by
   unfold pCons pNil at e
   cases e1:m env s with
   | ok w s2=>rw[e1]at e;cases e;exact⟨w,rfl⟩
   | ex c s2=>rw[e1]at e;cases e
   | bad=>rw[e1]at e;cases e
  obtain⟨y,ys,rfl,k1,k2⟩:=vr1.cons_inv
  cases k2.nil_inv
  cases w with
  | int j=>
   obtain⟨⟨h1,h2⟩,ho1⟩:=ho1.ifInv
   cases k1.int_inv
   exact⟨j,rfl,h1,h2,ho1 ρ1 H1 _ .refl sr1 ⟨λ ρ' s' H' u' sr' _=>walk_rng sr'⟩⟩
  | _=>exact ho1.elim
noncomputable def forL (tgt:Mt)(body:Ms)(gs:Gd):List AV->En->S->RS
 | [],env,s=>open Classical in if gOk gs s then .nx env s else .bad
 | v :: r,env,s=>open Classical in if gOk gs s then (match tgt v env s with
   | .nx e1 s1=>(match body e1 s1 with
    | .nx e2 s2=>forL tgt body gs r e2 s2
    | .ct e2 s2=>forL tgt body gs r e2 s2
    | .bk e2 s2=>.nx e2 s2
    | q=>q)
   | .ex c s1=>.ex c s1
   | _=>.bad) else .bad
noncomputable def sFor (src:Src)(tgt:Mt)(body:Ms):Ms:=λ env s=>(src env s).bindS λ p s1=>forL tgt body p.2 p.1 env s1
theorem OutS.ifInv {ρ:List Addr}{H:Hp}{c:Prop}{_:Decidable c}{r:RS}{D:Ends}(h:OutS T XE ρ H (if c then r else .bad) D):c/\OutS T XE ρ H r D:=by
 by_cases hc:c
 ·rw[if_pos hc]at h;exact⟨hc,h⟩
 ·rw[if_neg hc]at h;exact h.elim
theorem ms_for {tg iter:Expr}{body:List Stmt}{src:Src}{tgt:Mt}{mb:Ms}(hp:PassesOwn (model X.prog X.w) X.A X.env X.xe) (hc:X.calm=true)(hi:PI X tg iter (tW T XE src)) (hg:PG X tg (tT T XE tgt)) (hb:PSs X body (tS T XE mb))
  (hs:∀ x,foldedSetIterable iter X.env x=pure x:=by intro _;rfl):PS X (.For tg iter body [] pos) (tS T XE (sFor src tgt mb)):=
 PS.imp (ps_for hp hc hi hg hb hs) λ D σ H ⟨ρ,env,s,hs,he,ho⟩=>stepS hs he ho λ p s1 ρ1 H1 J _ u1 sr1 er1 wk ho1=>by
  obtain⟨xs,gs⟩:=p
  have wk:Walks T ρ1 H1 xs gs J:=wk
  refine⟨λ i m σ' H'=>m=xs.length - i/\i<=xs.length/\∃ ρ' env' s',Up ρ1 H1 ρ' H'/\SR T ρ' s' H'/\ER T ρ' H' env' σ'/\OutS T XE ρ' H' (forL tgt mb gs (xs.drop i) env' s') D,⟨_,rfl,Nat.zero_le _,ρ1,env,s1,.refl,sr1,er1,ho1⟩,?_⟩
  rintro i m σ' H' ⟨rfl,hi,ρ',env',s',u',sr',er',ho'⟩
  by_cases hlt:i < xs.length
  ·rw[List.drop_eq_getElem_cons hlt]at ho'
   unfold forL at ho'
   obtain⟨hg',ho'⟩:=ho'.ifInv
   obtain⟨w1,w2⟩:=(wk.turn ρ' s' H' u' sr' hg').1 i xs[i] (List.getElem?_eq_getElem hlt)
   refine .inr ⟨w1,λ σ2 H2=>∃ ρ2 env2 s2,Up ρ1 H1 ρ2 H2/\SR T ρ2 s2 H2/\ER T ρ2 H2 env2 σ2/\OutS T XE ρ2 H2 (forL tgt mb gs (xs.drop (i+1)) env2 s2) D,λ σ2 H2 h2=>⟨xs.length - (i+1),by omega,rfl,hlt,h2⟩,λ x H'' hy=>?_⟩
   obtain⟨y1,y2,y3⟩:=w2 x H'' hy
   refine⟨ρ',env',s',xs[i],y2,er'.up y1,y3,?_⟩
   have ho':=OutS.up y1 ho'
   cases et:tgt xs[i] env' s' with
   | nx e1 s1=>
    simp only[et]at ho'
    refine λ ρ2 H2 σ2 u2 sr2 er2=>⟨ρ2,e1,s1,sr2,er2,?_⟩
    have ho':=OutS.up u2 ho'
    have up2:Up ρ1 H1 ρ2 H2:=(u'.trans y1).trans u2
    cases eb:mb e1 s1 with
    | nx e2 s2=>simp only[eb]at ho';exact λ ρ3 H3 σ3 u3 sr3 er3=>⟨ρ3,e2,s2,up2.trans u3,sr3,er3,OutS.up u3 ho'⟩
    | ct e2 s2=>simp only[eb]at ho';exact λ ρ3 H3 σ3 u3 sr3 er3=>⟨ρ3,e2,s2,up2.trans u3,sr3,er3,OutS.up u3 ho'⟩
    | bk e2 s2=>simp only[eb]at ho';exact λ ρ3 H3 σ3 u3 sr3 er3=>ho' ρ3 H3 σ3 u3 sr3 er3
    | rt v s2=>simp only[eb]at ho';exact ho'
    | ex v s2=>simp only[eb]at ho';exact ho'
    | bad=>simp only[eb]at ho';exact ho'
   | ex c s1=>simp only[et]at ho';exact ho'
   | rt v s2=>simp only[et]at ho';exact ho'.elim
   | bk v s2=>simp only[et]at ho';exact ho'.elim
   | ct v s2=>simp only[et]at ho';exact ho'.elim
   | bad=>simp only[et]at ho';exact ho'.elim
  ·have e:i=xs.length:=by omega
   subst e
   rw[List.drop_length]at ho'
   unfold forL at ho'
   obtain⟨hg',ho'⟩:=ho'.ifInv
   exact .inl ⟨(wk.turn ρ' s' H' u' sr' hg').2,ho' ρ' H' σ' .refl sr' er'⟩
abbrev Lc:=List (Str × Option Nat)
def srcE (l:Lc)(env:En):En:=l.map λ p=>p.2.bind λ j=>(env[j]?).join
theorem ER.src {ρ:List Addr}{H:Hp}{env:En}{σ:St}(h:ER T ρ H env σ)(l:Lc):ER T ρ H (srcE l env) (srcV l σ):=by
 refine⟨by simp[srcE,srcV],λ i v e=>?_⟩
 unfold srcE at e
 unfold srcV
 rw[List.getElem?_map]at e ⊢
 cases el:l[i]? with
 | none=>rw[el]at e;cases e
 | some p=>
  rw[el]at e
  obtain⟨n,o⟩:=p
  cases o with
  | none=>cases e
  | some j=>
   have e:some ((env[j]?).join)=some (some v):=e
   have e':env[j]? = some (some v):=by
    cases ej:env[j]? with
    | none=>rw[ej]at e;cases e
    | some q=>rw[ej]at e;cases e;rfl
   obtain⟨x,ex,k⟩:=h.get j v e'
   exact⟨x,by show some ((σ[j]?).join)=_;rw[ex];rfl,k⟩
def XE0:XEt:=λ _ _ _ _=>False
def R.calm {α:Type}:R α->R α
 | .ex _ _=>.bad
 | r=>r
@[simp] theorem calm_ok {α:Type}(a:α) (s:S):(R.ok a s).calm=.ok a s:=rfl
@[simp] theorem calm_bad {α:Type}:(R.bad:R α).calm=.bad:=rfl
def cYes:Eb:=λ _ s=>.ok true s
noncomputable def compL (tgt:Mt)(test:Eb)(elt:Ev)(gs:Gd):List AV->En->S->List AV->R (List AV)
 | [],env,s,acc=>open Classical in if gOk gs s then .ok acc s else .bad
 | v :: r,env,s,acc=>open Classical in if gOk gs s then (match tgt v env s with
   | .nx e1 s1=>(test e1 s1).calm.bind λ b s2=>if b=true then (elt e1 s2).calm.bind λ x s3=>compL tgt test elt gs r e1 s3 (acc++[x]) else compL tgt test elt gs r e1 s2 acc
   | _=>.bad) else .bad
noncomputable def lComp (l:Lc)(src:Src)(tgt:Mt)(test:Eb)(elt:Ev):Evs:=λ env s=>(src env s).bind λ p s1=>if p.1.length<=sizeLine then compL tgt test elt p.2 p.1 (srcE l env) s1 [] else .bad
theorem pif_nil':PIf X [] (tC' T XE cYes):=λ pins s σ H Q I ⟨ρ,env,st,hs,he,ho⟩=>pif_nil pins s σ H Q I (hereB ho hs)
theorem pif_one' {c:Expr}{m:Eb}(h:PT X c (tC' T XE m)):PIf X [c] (tC' T XE m):=pif_one h
theorem comp_of {l:Lc}{src:Src}{tgt:Mt}{test:Eb}{elt:Ev}{σ:St}{H:Hp}{Q:VK}(h:tL T XE (lComp l src tgt test elt) σ H Q):tComp l (tW T XE src) (tT T XE0 tgt) (tC' T XE0 test) (tE T XE0 elt) σ H Q:=by
 obtain⟨ρ,env,s,hs,he,ho⟩:=h
 refine⟨ρ,env,s,hs,he,?_⟩
 unfold lComp at ho
 cases e:src env s with
 | bad=>rw[e]at ho;exact ho
 | ex c s1=>rw[e]at ho;exact ho
 | ok p s1=>
  rw[e]at ho
  obtain⟨xs,gs⟩:=p
  obtain⟨hlen,ho⟩:=ho.ifInv
  have hlen:xs.length<=sizeLine:=hlen
  intro ρ1 H1 J u1 sr1 wk D hD
  have wk:Walks T ρ1 H1 xs gs J:=wk
  have nD:D∉ρ1:=sr1.out hD
  refine⟨λ i m ys σ' H'=>m=xs.length - i/\i<=xs.length/\ys.length<=i/\∃ ρ' env' s' acc,Up ρ1 H1 ρ' H'/\SR T ρ' s' H'/\ER T ρ' H' env' σ'/\H' D=some (.lst ys)/\D∉ρ'/\VRs T ρ' H' acc ys/\Out T XE (rL T) ρ H (compL tgt test elt gs (xs.drop i) env' s' acc) Q,
   ⟨_,rfl,Nat.zero_le _,Nat.le_refl _,ρ1,srcE l env,s1,[],sr1.upNew hD,sr1.new hD,((he.up u1).up (sr1.upNew hD)).src l,upd_same,nD,.nil,ho⟩,?_⟩
  rintro i m ys σ' H' ⟨rfl,hi,hy,ρ',env',s',acc,u',sr',er',hd,nd',ka,ho'⟩
  by_cases hlt:i < xs.length
  ·rw[List.drop_eq_getElem_cons hlt]at ho'
   unfold compL at ho'
   obtain⟨hg',ho'⟩:=ho'.ifInv
   obtain⟨w1,w2⟩:=(wk.turn ρ' s' H' u' sr' hg').1 i xs[i] (List.getElem?_eq_getElem hlt)
   refine .inr ⟨w1,λ x H'' hy'=>?_⟩
   obtain⟨y1,y2,y3⟩:=w2 x H'' hy'
   refine⟨ρ',env',s',xs[i],y2,er'.up y1,y3,?_⟩
   have hd1:=y1.fr D _ hd nd'
   have ka1:=ka.up y1
   cases et:tgt xs[i] env' s' with
   | nx e1 s2=>
    simp only[et]at ho'
    refine λ ρ2 H2 σ2 u2 sr2 er2=>⟨ρ2,e1,s2,sr2,er2,?_⟩
    have hd2:=u2.fr D _ hd1.1 hd1.2
    have ka2:=ka1.up u2
    cases eb:test e1 s2 with
    | bad=>simp only[eb,calm_bad,bind_bad]at ho';exact ho'.elim
    | ex c s3=>simp only[eb,R.calm,bind_bad]at ho';exact ho'.elim
    | ok b s3=>
     simp only[eb,calm_ok,bind_ok]at ho'
     intro ρ3 H3 b' u3 sr3 eb'
     cases (show b=b' from eb')
     have hd3:=u3.fr D _ hd2.1 hd2.2
     have ka3:=ka2.up u3
     have up3:Up ρ1 H1 ρ3 H3:=((u'.trans y1).trans u2).trans u3
     cases b with
     | false=>
      rw[if_neg (by decide)]at ho' ⊢
      exact⟨xs.length - (i+1),by omega,rfl,hlt,by omega,ρ3,e1,s3,acc,up3,sr3,er2.up u3,hd3.1,hd3.2,ka3,ho'⟩
     | true=>
      rw[if_pos rfl]at ho' ⊢
      refine⟨ρ3,e1,s3,sr3,er2.up u3,?_⟩
      cases ev:elt e1 s3 with
      | bad=>simp only[ev,calm_bad,bind_bad]at ho';exact ho'.elim
      | ex c s4=>simp only[ev,R.calm,bind_bad]at ho';exact ho'.elim
      | ok v s4=>
       simp only[ev,calm_ok,bind_ok]at ho'
       intro ρ4 H4 x4 u4 sr4 vr4
       have hd4:=u4.fr D _ hd3.1 hd3.2
       have ka4:=ka3.up u4
       have g5:Gr ρ4 H4 ρ4 (upd H4 D (.lst (ys++[x4]))):=grAt hd4.1
       refine⟨hd4.1,by omega,xs.length - (i+1),by omega,rfl,hlt,by rw[List.length_append];exact Nat.succ_le_succ hy,ρ4,e1,s4,acc++[v],(up3.trans u4).mod hD hd4.2,sr4.up g5 λ a ha=>upd_ne λ z=>hd4.2 (z ▸ ha),((er2.up u3).up u4).gr g5,upd_same,hd4.2,(ka4.append (.one vr4)).gr g5,ho'⟩
   | ex c s1=>simp only[et]at ho';exact ho'.elim
   | rt v s2=>simp only[et]at ho';exact ho'.elim
   | bk v s2=>simp only[et]at ho';exact ho'.elim
   | ct v s2=>simp only[et]at ho';exact ho'.elim
   | bad=>simp only[et]at ho';exact ho'.elim
  ·have e:i=xs.length:=by omega
   subst e
   rw[List.drop_length]at ho'
   unfold compL at ho'
   obtain⟨hg',ho'⟩:=ho'.ifInv
   exact .inl ⟨(wk.turn ρ' s' H' u' sr' hg').2,ho' ρ' H' (.ref D) (u1.trans u') sr' ⟨D,ys,rfl,u1.live D hD,nd',hd,ka⟩⟩
theorem ml_comp {elt tg iter:Expr}{ifs:List Expr}{scope:Scope}{src:Src}{tgt:Mt}{test:Eb}{me:Ev}(l:Lc)(hsc:CompScope X scope l)(hcalm:X.calm=true)(hi:PI X tg iter (tW T XE src))
  (hg:∀ cl C fp s3 H3,PG (cxComp X l scope cl C fp s3 H3) tg (tT T XE0 tgt)) (ht:∀ cl C fp s3 H3,PIf (cxComp X l scope cl C fp s3 H3) ifs (tC' T XE0 test)) (he:∀ cl C fp s3 H3,PE (cxComp X l scope cl C fp s3 H3) elt (tE T XE0 me))
  (hs:∀ x,foldedSetIterable iter X.env x=pure x:=by intro _;rfl):PE X (.ListComp elt [⟨tg,iter,ifs,0⟩] scope pos) (tL T XE (lComp l src tgt test me)):=
 PE.imp (pe_comp l hsc hcalm hi hg ht he hs) λ _ _ _ h=>comp_of h
theorem new_of {r:Evs}{σ:St}{H:Hp}{Q:VK}(h:tE T XE (mNew r) σ H Q):tL T XE r σ H Q:=by
 obtain⟨ρ,env,s,hs,he,ho⟩:=h
 refine⟨ρ,env,s,hs,he,?_⟩
 unfold mNew at ho
 cases e:r env s with
 | bad=>rw[e]at ho;exact ho
 | ex c s1=>rw[e]at ho;exact ho
 | ok vs s1=>
  rw[e]at ho
  intro ρ1 H1 x u sr ⟨a,ws,e1,h0,h1,h2,k⟩
  subst e1
  have g:Gr ρ1 H1 (ρ1++[a]) H1:=⟨List.prefix_append _ _,λ _ _ z=>z,λ _ _ _ z=>z⟩
  refine ho (ρ1++[a]) H1 (.ref a) (u.add h0) (sr.add h1 (OR.lst h2 (k.gr g))) (vr_ref (T:=T) (H:=H1) ?_)
  rw[List.getElem?_append_right (by rw[sr.len];exact Nat.le_refl _),sr.len,Nat.sub_self];rfl
theorem ms_setComp {i:Nat}{y:Str}{py spos:Pos}{elt tg iter:Expr}{ifs:List Expr}{scope:Scope}{src:Src}{tgt:Mt}{test:Eb}{me:Ev}(l:Lc)(hsc:CompScope X scope l)(hcalm:X.calm=true)(hN:X.N.Nodup)(hi:PI X tg iter (tW T XE src))
  (hg:∀ cl C fp s3 H3,PG (cxComp X l scope cl C fp s3 H3) tg (tT T XE0 tgt)) (ht:∀ cl C fp s3 H3,PIf (cxComp X l scope cl C fp s3 H3) ifs (tC' T XE0 test)) (he:∀ cl C fp s3 H3,PE (cxComp X l scope cl C fp s3 H3) elt (tE T XE0 me))
  (hy:X.N[i]? = some y:=by rfl) (hx:X.env.scope.names.lookup y=some .local:=by rfl)
  (hsw:swapsWith (.ListComp elt [⟨tg,iter,ifs,0⟩] scope pos) (some (.Name y py)) spos.line X.env=pure true:=by rfl)
  (hs:∀ x,foldedSetIterable iter X.env x=pure x:=by intro _;rfl) :
  PS X (.Assign [.Name y py] (.ListComp elt [⟨tg,iter,ifs,0⟩] scope pos) spos) (tS T XE (sSet i (mNew (lComp l src tgt test me)))):=
 PS.imp (ps_setComp l hsc hcalm hN hy hx hi hg ht he hsw hs) λ D σ H h=>comp_of (new_of (asg_of h))
def fnR (n:Nat)(body:Ms):List AV->S->R AV:=λ args s=>match body (args.map some++List.replicate (n - args.length) none) s with
 | .rt v s1=>.ok v s1
 | .nx _ s1=>.ok .non s1
 | .ex c s1=>.ex c s1
 | _=>.bad
def spOf (T:Tx)(n:Nat)(F:List AV->S->R AV):Sp:=λ vs H Q _=>vs.length=n/\∃ ρ s args,SR T ρ s H/\VRs T ρ H args vs/\Out T XE0 (rV T) ρ H (F args s) Q
theorem er_start {ρ:List Addr}{H:Hp}{args:List AV}{vs:List V}(N:List Str)(k:VRs T ρ H args vs):ER T ρ H (args.map some++List.replicate (N.length - args.length) none) (L2.start N vs):=by
 refine⟨by simp[L2.start,k.length],λ i v e=>?_⟩
 unfold L2.start
 have hi:i < args.length:=by
  by_cases hi:i < args.length
  ·exact hi
  ·rw[List.getElem?_append_right (by simpa using hi),List.getElem?_replicate]at e
   split at e<;>cases e
 rw[List.getElem?_append_left (by simpa using hi),List.getElem?_map]at e
 cases ea:args[i]? with
 | none=>rw[ea]at e;cases e
 | some w=>
  rw[ea]at e;cases e
  obtain⟨x,ex,q⟩:=k.get ea
  exact⟨x,by rw[List.getElem?_append_left (by simpa[<-k.length]using hi),List.getElem?_map,ex];rfl,q⟩
theorem fn_ok {P:Program}{w:World}{mg:Str->Option Value}{base:Heap}{x qual:Str}{st:Stmt}{f:Addr}{fd:FuncData}{N ps:List Str}{k:Nat}{body:Ms}(F:Fun T.K x qual st f fd)(S:FnScope N ps (defScope st))
  (hb:∀ (cdv:Value) (A:Around) (outer:List Env) (s:Shared) (H:Hp) (E:XK),Room k (A.deeper (PyProof.Rows.envOfC qual (defScope st) s.heap.objs.size f cdv))->PSs (cxOf CX0 P w T.K mg base N qual (defScope st) f cdv A outer s H E).nox (defBody st) (tS T XE0 body)) :
  FnOk P w T.K mg base CX0 (k+1) f fd ps (spOf T ps.length (fnR N.length body)):=
 F.ok S (λ vs H Q E h=>h.1) λ cdv A outer s H vs Q E hr ⟨hl,ρ,st',args,sr,va,ho⟩=>by
  refine⟨_,hb cdv A outer s H E hr,ρ,_,st',sr,er_start N va,?_⟩
  unfold fnR at ho
  cases e:body (args.map some++List.replicate (N.length - args.length) none) st' with
  | nx e1 s1=>simp only[e]at ho;exact λ ρ2 H2 σ2 u sr er=>ho ρ2 H2 .non u sr (vr_non (T:=T) (ρ:=ρ2) (H:=H2))
  | rt v s1=>simp only[e]at ho;exact ho
  | ex c s1=>simp only[e]at ho;exact ho
  | bk v s1=>simp only[e]at ho;exact ho.elim
  | ct v s1=>simp only[e]at ho;exact ho.elim
  | bad=>simp only[e]at ho;exact ho.elim
def mCall (n:Nat)(F:List AV->S->R AV)(r:Evs):Ev:=λ env s=>(r env s).bind λ vs s1=>if vs.length=n then F vs s1 else .bad
theorem call_of {n:Nat}{F:List AV->S->R AV}{r:Evs}{σ:St}{H:Hp}{Q:VK}(h:tE T XE0 (mCall n F r) σ H Q):tCall (spOf T n F) [] E0 (tP T XE0 r) σ H Q:=by
 obtain⟨ρ,env,s,hs,he,ho⟩:=h
 refine step hs he ho λ vs s1 ρ1 H1 xs _ u1 sr1 er1 vr1 ho1=>?_
 obtain⟨hl,ho1⟩:=ho1.ifInv
 have vr1:VRs T ρ1 H1 vs xs:=vr1
 rw[List.append_nil]
 exact⟨by rw[<-vr1.length];exact hl,ρ1,s1,vs,sr1,vr1,ho1⟩
theorem me_call {k n:Nat}{f:Addr}{fd:FuncData}{ps:List Str}{Fn:List AV->S->R AV}{x:Str}{p:Pos}{e:Expr}{es:List Expr}{r:Evs}(hK:X.K=T.K)(G:FnOk X.prog X.w T.K X.mg X.base CX0 k f fd ps (spOf T n Fn)) (hr:Room k X.A)(hm:X.mg x=some (.ref f)) (hk:PySem.W.keepIn T.K (.ref f)=true) (hb:Binds T.K fd ps [])
  (ha:PA X (e :: es) (tP T XE0 r)) (hg:Gl X x:=by rfl) (hdb:(x == ("__debug__":Str))=false:=by decide) (he:starEach (e :: es) X.env=(false,eval e X.env) :: starEach es X.env:=by rfl) (hpl:(backTo pos (starEach es X.env)).any (·.1)=false:=by rfl) :
  PE X (.Call (.Name x p) (e :: es) [] pos) (tE T XE0 (mCall n Fn r)):=
 PE.imp (pe_call (E:=E0) (by rw[hK];exact G) hr hg hm (by rw[hK];exact hk) (by rw[hK];exact hb) .nil pass0 ha hdb he hpl) λ _ _ _ h=>call_of h
end
end Mm
namespace Ro
open PySem L2
def gsg (top below:Int):Int:=if below < 0 then -((Int.gcd top below:Nat):Int) else ((Int.gcd top below:Nat):Int)
def fr (top below:Int):Int × Int:=(top.fdiv (gsg top below),below.fdiv (gsg top below))
theorem gcd_pos {t b:Int}(h:b≠0):0 < Int.gcd t b:=Int.gcd_pos_of_ne_zero_right t h
theorem gsg_natAbs (t b:Int):(gsg t b).natAbs=Int.gcd t b:=by
 unfold gsg
 split<;>omega
theorem gsg_dvd_l (t b:Int):gsg t b ∣ t:=by
 unfold gsg
 split
 ·exact(Int.neg_dvd).mpr (Int.gcd_dvd_left ..)
 ·exact Int.gcd_dvd_left ..
theorem gsg_dvd_r (t b:Int):gsg t b ∣ b:=by
 unfold gsg
 split
 ·exact(Int.neg_dvd).mpr (Int.gcd_dvd_right ..)
 ·exact Int.gcd_dvd_right ..
theorem fdiv_of_dvd {a g:Int}(h:g ∣ a):a.fdiv g * g=a:=Int.fdiv_mul_cancel h
theorem dvd_co {x y v:Int}(h:y ∣ x * v)(h2:Int.gcd x y=1):y ∣ v:=by
 have h1:y.natAbs ∣ x.natAbs * v.natAbs:=by rw[<-Int.natAbs_mul];exact Int.natAbs_dvd_natAbs.mpr h
 have hc:Nat.Coprime y.natAbs x.natAbs:=by
  show Nat.gcd y.natAbs x.natAbs=1
  rw[Nat.gcd_comm]
  exact h2
 exact Int.natAbs_dvd_natAbs.mp (hc.dvd_of_dvd_mul_left h1)
theorem fr_l (t b:Int):(fr t b).1 * gsg t b=t:=fdiv_of_dvd (gsg_dvd_l t b)
theorem fr_r (t b:Int):(fr t b).2 * gsg t b=b:=fdiv_of_dvd (gsg_dvd_r t b)
theorem fr_cross (t b:Int)(h:b≠0):(fr t b).1 * b=t * (fr t b).2:=by
 have h1:=fr_l t b
 have h2:=fr_r t b
 generalize (fr t b).1=x at *
 generalize (fr t b).2=y at *
 generalize gsg t b=g at *
 subst h1
 rw[<-h2]
 rw[Int.mul_comm y g,<-Int.mul_assoc,Int.mul_right_comm]
theorem fr_pos (t b:Int)(h:b≠0):1<=(fr t b).2:=by
 have h2:=fr_r t b
 have hg:=gcd_pos (t:=t) h
 have hb:(gsg t b < 0/\b < 0)∨(0 < gsg t b/\0 < b):=by
  unfold gsg
  split
  ·left;omega
  ·right;omega
 generalize (fr t b).2=y at *
 generalize gsg t b=g at *
 rcases hb with⟨h3,h4⟩|⟨h3,h4⟩
 ·refine Int.not_lt.mp λ hy=>?_
  have:0<=y * g:=Int.mul_nonneg_of_nonpos_of_nonpos (by omega) (by omega)
  omega
 ·refine Int.not_lt.mp λ hy=>?_
  have:y * g<=0:=Int.mul_nonpos_of_nonpos_of_nonneg (by omega) (by omega)
  omega
theorem fr_gcd (t b:Int)(h:b≠0):Int.gcd (fr t b).1 (fr t b).2=1:=by
 have h1:=fr_l t b
 have h2:=fr_r t b
 have hg:=gcd_pos (t:=t) h
 have hn:=gsg_natAbs t b
 have e:Int.gcd ((fr t b).1 * gsg t b) ((fr t b).2 * gsg t b)=Int.gcd (fr t b).1 (fr t b).2 * (gsg t b).natAbs:=Int.gcd_mul_right ..
 rw[h1,h2,hn]at e
 have:1 * Int.gcd t b=Int.gcd (fr t b).1 (fr t b).2 * Int.gcd t b:=by rw[Nat.one_mul];exact e
 exact(Nat.eq_of_mul_eq_mul_right hg this).symm
theorem fr_uniq {x y t b:Int}(hb:b≠0)(h1:1<=y)(h2:Int.gcd x y=1)(h3:x * b=t * y):fr t b=(x,y):=by
 have k1:=fr_pos t b hb
 have k2:=fr_gcd t b hb
 have k3:=fr_cross t b hb
 have e:x * (fr t b).2=(fr t b).1 * y:=by
  refine Int.eq_of_mul_eq_mul_right hb ?_
  have e1:x * (fr t b).2 * b=x * b * (fr t b).2:=Int.mul_right_comm ..
  have e2:(fr t b).1 * y * b=(fr t b).1 * b * y:=Int.mul_right_comm ..
  rw[e1,e2,h3,k3,Int.mul_right_comm]
 generalize hx:(fr t b).1=u at *
 generalize hy:(fr t b).2=v at *
 have d1:y ∣ v:=by
  have:y ∣ x * v:=⟨u,by rw[e,Int.mul_comm]⟩
  exact dvd_co this h2
 have d2:v ∣ y:=by
  have:v ∣ u * y:=⟨x,by rw[<-e,Int.mul_comm]⟩
  exact dvd_co this k2
 have ev:v=y:=Int.dvd_antisymm (by omega) (by omega) d2 d1
 have eu:u=x:=by
  rw[ev]at e
  exact(Int.eq_of_mul_eq_mul_right (by omega) e).symm
 rw[show fr t b=(u,v) from by rw[<-hx,<-hy],eu,ev]
def low (top below:Int):Int × Int:=
 (((if below < 0 then -1 else 1) * top).fdiv ((Int.gcd top below:Nat):Int),((if below < 0 then -1 else 1) * below).fdiv ((Int.gcd top below:Nat):Int))
theorem low_fr (t b:Int)(hb:b≠0):low t b=fr t b:=by
 unfold low fr gsg
 by_cases h:b < 0
 ·rw[if_pos h,if_pos h]
  have hg:=gcd_pos (t:=t) hb
  have key:∀ a:Int,((Int.gcd t b:Nat):Int) ∣ a->(-1 * a).fdiv ((Int.gcd t b:Nat):Int)=a.fdiv (-((Int.gcd t b:Nat):Int)):=by
   intro a ⟨c,hc⟩
   rw[hc]
   have e1:(-1 * (((Int.gcd t b:Nat):Int) * c))=(-c) * ((Int.gcd t b:Nat):Int):=by
    rw[Int.neg_mul,Int.one_mul,Int.mul_comm,Int.neg_mul]
   have e2:(((Int.gcd t b:Nat):Int) * c)=(-c) * (-((Int.gcd t b:Nat):Int)):=by
    rw[Int.neg_mul_neg,Int.mul_comm]
   rw[e1,Int.mul_fdiv_cancel _ (by omega),e2,Int.mul_fdiv_cancel _ (by omega)]
  rw[key t (Int.gcd_dvd_left ..),key b (Int.gcd_dvd_right ..)]
 ·rw[if_neg h,if_neg h,Int.one_mul,Int.one_mul]
end Ro
namespace Ro
open PySem L2
theorem boot_abs:bootBuiltins "abs"=some (.builtin "abs"):=by decide +kernel
theorem boot_divmod:bootBuiltins "divmod"=some (.builtin "divmod"):=by decide +kernel
theorem boot_list:bootBuiltins "list"=some (.type "list"):=by decide +kernel
theorem boot_tuple:bootBuiltins "tuple"=some (.type "tuple"):=by decide +kernel
theorem boot_int:bootBuiltins "int"=some (.type "int"):=by decide +kernel
theorem boot_bool:bootBuiltins "bool"=some (.type "bool"):=by decide +kernel
theorem boot_str:bootBuiltins "str"=some (.type "str"):=by decide +kernel
theorem boot_isinstance:bootBuiltins "isinstance"=some (.builtin "isinstance"):=by decide +kernel
theorem boot_all:bootBuiltins "all"=some (.builtin "all"):=by decide +kernel
theorem kne:¬ (("cells":Str)="turn"):=by decide +kernel
theorem pw18:(10:Int) ^ (18:Int).toNat=1000000000000000000:=by decide +kernel
end Ro
namespace L2
open PySem PySem.Spec PyProof.Rows
def TagV (K:PySem.W.Frag)(H:Hp)(x:V)(t:String):Prop:=match x with
 | .non=>t="NoneType"
 | .bl _=>t="bool"
 | .int _=>t="int"
 | .str _=>t="str"
 | .ref a=>(t="tuple"/\∃ xs,SqT K H a xs)∨(t="list"/\∃ xs,SqL K H a xs)∨(t="dict"/\((∃ kvs,H a=some (.dK kvs))∨∃ kvs,H a=some (.dT kvs)))
 | _=>False
def rIsT (K:PySem.W.Frag):List V->Hp->VK->Prop:=λ xs H Q=>∃ (t:String) (x:V) (n:String) (b:Bool),xs=[x,.ty n]/\TagV K H x t/\PySem.W.kitOne K (.type t) (.type n)=some b/\Q (.bl b) H
theorem call_isT {X:Cx}:CallR X (.builtin "isinstance") (rIsT X.K):=by
 intro pins s σ H xs us Q I r h
 obtain⟨t,x,n,b,rfl,hd,e,q⟩:=h
 obtain⟨u,w',rfl,ru,rw'⟩:=vals2 r
 obtain rfl:w'=Value.type n:=rw'
 have fin:∀ tk,EP X pins σ Q (.bool b) { s with toks:=tk }:=λ tk=>⟨.bl b,H,I.tok tk,rfl,q⟩
 cases x with
 | non=>cases (show t=_ from hd);exact isinst_ok I ru .non e fin
 | bl y=>cases (show t=_ from hd);exact isinst_ok I ru (.bl y) e fin
 | int y=>cases (show t=_ from hd);exact isinst_ok I ru (.int y) e fin
 | str y=>cases (show t=_ from hd);exact isinst_ok I ru (.str y) e fin
 | ref a=>
  cases ru
  rcases hd with⟨rfl,ys,q1⟩|⟨rfl,ys,q1⟩|⟨rfl,hk⟩
  ·obtain⟨its,_,p,_⟩:=I.tuple q1
   obtain⟨o,h1,h2,_⟩:=p
   exact PySem.W.kia_one PySem.W.kitx_tuple I.kIn ⟨o,h1,h2⟩ e (λ z=>nomatch z) fin
  ·obtain⟨its,_,p,_⟩:=I.list q1
   obtain⟨o,h1,h2,_⟩:=p.isList
   exact PySem.W.kia_one PySem.W.kitx_list I.kIn ⟨o,h1,h2⟩ e (λ z=>nomatch z) fin
  ·have z:∃ o,s.heap.get? a=some o/\o.ExactDict:=by
    rcases hk with⟨kvs,hk⟩|⟨kvs,hk⟩
    ·obtain⟨_,_,_,_,o,_,_,e,ex,_⟩:=I.hok a _ hk
     exact⟨o,e,ex⟩
    ·obtain⟨_,_,_,_,o,_,_,e,ex,_⟩:=I.hok a _ hk
     exact⟨o,e,ex⟩
   obtain⟨o,h1,h2⟩:=z
   exact PySem.W.kia_one PySem.W.kitx_dict I.kIn ⟨o,h1,h2.1⟩ e (λ z=>nomatch z) fin
 | byt y=>exact False.elim hd
 | flt y=>exact False.elim hd
 | ty y=>exact False.elim hd
end L2
namespace Mm
open PySem L2
section
variable {T:Tx}{XE:XEt}{X:Cx}{pos:Pos}
def rCM (T:Tx)(XE:XEt)(op:List AV->S->R AV):List V->Hp->VK->Prop:=λ vs H Q=>∃ ρ args s,SR T ρ s H/\VRs T ρ H args vs/\Out T XE (rV T) ρ H (op args s) Q
def rCQ {α:Type}(T:Tx)(XE:XEt)(rl:Rl α V)(op:List AV->S->R α):List V->Hp->VK->Prop:=λ vs H Q=>∃ a ws ρ xs s,vs=[.ref a]/\SR T ρ s H/\(SqL T.K H a ws∨SqT T.K H a ws)/\VRs T ρ H xs ws/\Out T XE rl ρ H (op xs s) Q
def mOp (op:List AV->S->R AV)(r:Evs):Ev:=λ env s=>(r env s).bind op
def gOp {α:Type}(op:List AV->S->R α)(r:Evs):En->S->R α:=λ env s=>(r env s).bind op
theorem cb_of {op:List AV->S->R AV}{r:Evs}{σ:St}{H:Hp}{Q:VK}(h:tE T XE (mOp op r) σ H Q):tCB (rCM T XE op) (tP T XE r) σ H Q:=by
 obtain⟨ρ,env,s,hs,he,ho⟩:=h
 exact step hs he ho λ v s1 ρ1 H1 x _ u1 sr1 er1 vr1 ho1=>⟨ρ1,v,s1,sr1,vr1,ho1⟩
theorem cq_of {α:Type}{rl:Rl α V}{op:List AV->S->R α}{r:Evs}{σ:St}{H:Hp}{Q:VK}(h:tG T XE rl (gOp op r) σ H Q):tCB (rCQ T XE rl op) (tCons (tQ T XE r) tNil) σ H Q:=by
 obtain⟨ρ,env,s,hs,he,ho⟩:=h
 refine step hs he ho λ v s1 ρ1 H1 x _ u1 sr1 er1 vr1 ho1=>?_
 obtain⟨a,ws,rfl,q,k⟩:=vr1
 exact⟨a,ws,ρ1,v,s1,rfl,sr1,q,k,ho1⟩
theorem me_B {id:String}{op:List AV->S->R AV}{x:Str}{p:Pos}{e:Expr}{es:List Expr}{r:Evs}(hc:CallR X (.builtin id) (rCM T XE op)) (hm:X.mg x=none)(hv:bootBuiltins x=some (.builtin id)) (ha:PA X (e :: es) (tP T XE r)) (hg:Gl X x:=by rfl)(hn:x≠"__name__":=by decide)(hdb:(x == ("__debug__":Str))=false:=by decide)
  (he:starEach (e :: es) X.env=(false,eval e X.env) :: starEach es X.env:=by rfl) (hpl:(backTo pos (starEach es X.env)).any (·.1)=false:=by rfl):PE X (.Call (.Name x p) (e :: es) [] pos) (tE T XE (mOp op r)):=
 PE.imp (pe_callB hc hg hm hv ha hn hdb he hpl) λ _ _ _ h=>cb_of h
theorem me_T {id:String}{op:List AV->S->R AV}{x:Str}{p:Pos}{e:Expr}{es:List Expr}{r:Evs}(hc:CallR X (.type id) (rCM T XE op)) (hm:X.mg x=none)(hv:bootBuiltins x=some (.type id)) (ha:PA X (e :: es) (tP T XE r)) (hg:Gl X x:=by rfl)(hn:x≠"__name__":=by decide)(hdb:(x == ("__debug__":Str))=false:=by decide)
  (he:starEach (e :: es) X.env=(false,eval e X.env) :: starEach es X.env:=by rfl) (hpl:(backTo pos (starEach es X.env)).any (·.1)=false:=by rfl):PE X (.Call (.Name x p) (e :: es) [] pos) (tE T XE (mOp op r)):=
 PE.imp (pe_callTy hc hg hm hv ha hn hdb he hpl) λ _ _ _ h=>cb_of h
theorem mg_B {α:Type}{rl:Rl α V}{id:String}{op:List AV->S->R α}{x:Str}{p:Pos}{e:Expr}{r:Evs}(hc:CallR X (.builtin id) (rCQ T XE rl op)) (hm:X.mg x=none)(hv:bootBuiltins x=some (.builtin id)) (ha:PE X e (tQ T XE r)) (hg:Gl X x:=by rfl)(hn:x≠"__name__":=by decide)(hdb:(x == ("__debug__":Str))=false:=by decide)
  (he:starEach [e] X.env=(false,eval e X.env) :: starEach [] X.env:=by rfl) (hpl:(backTo pos (starEach [] X.env)).any (·.1)=false:=by rfl):PE X (.Call (.Name x p) [e] [] pos) (tG T XE rl (gOp op r)):=
 PE.imp (pe_callB hc hg hm hv (pa_cons ha pa_nil he) hn hdb he hpl) λ _ _ _ h=>cq_of h
theorem mg_T {α:Type}{rl:Rl α V}{id:String}{op:List AV->S->R α}{x:Str}{p:Pos}{e:Expr}{r:Evs}(hc:CallR X (.type id) (rCQ T XE rl op)) (hm:X.mg x=none)(hv:bootBuiltins x=some (.type id)) (ha:PE X e (tQ T XE r)) (hg:Gl X x:=by rfl)(hn:x≠"__name__":=by decide)(hdb:(x == ("__debug__":Str))=false:=by decide)
  (he:starEach [e] X.env=(false,eval e X.env) :: starEach [] X.env:=by rfl) (hpl:(backTo pos (starEach [] X.env)).any (·.1)=false:=by rfl):PE X (.Call (.Name x p) [e] [] pos) (tG T XE rl (gOp op r)):=
 PE.imp (pe_callTy hc hg hm hv (pa_cons ha pa_nil he) hn hdb he hpl) λ _ _ _ h=>cq_of h
def opAbs:List AV->S->R AV
 | [.int i],s=>.ok (.int (if i < 0 then -i else i)) s
 | _,_=>.bad
theorem VRs.one_inv {ρ:List Addr}{H:Hp}{v:AV}{xs:List V}(h:VRs T ρ H [v] xs):∃ x,xs=[x]/\VR T ρ H v x:=by
 obtain⟨x,ys,rfl,k1,k2⟩:=h.cons_inv
 cases k2.nil_inv
 exact⟨x,rfl,k1⟩
theorem VRs.two_inv {ρ:List Addr}{H:Hp}{v w:AV}{xs:List V}(h:VRs T ρ H [v,w] xs):∃ x y,xs=[x,y]/\VR T ρ H v x/\VR T ρ H w y:=by
 obtain⟨x,ys,rfl,k1,k2⟩:=h.cons_inv
 obtain⟨y,rfl,k3⟩:=k2.one_inv
 exact⟨x,y,rfl,k1,k3⟩
theorem cAbs:CallR X (.builtin "abs") (rCM T XE opAbs):=by
 intro pins s σ H xs us Q I r ⟨ρ,args,st,sr,va,ho⟩
 unfold opAbs at ho
 split at ho
 ·obtain⟨x,rfl,k⟩:=va.one_inv
  cases k.int_inv
  exact call_abs pins s σ H _ us Q I r ⟨_,rfl,ho.hereV sr vr_int⟩
 ·exact ho.elim
def opMin:List AV->S->R AV
 | [.int i,.int j],s=>.ok (.int (if j < i then j else i)) s
 | _,_=>.bad
theorem cMin (hc:X.calm=true):CallR X (.builtin "min") (rCM T XE opMin):=by
 intro pins s σ H xs us Q I r ⟨ρ,args,st,sr,va,ho⟩
 unfold opMin at ho
 split at ho
 ·obtain⟨x,y,rfl,k,k2⟩:=va.two_inv
  cases k.int_inv
  cases k2.int_inv
  exact call_min2 hc pins s σ H _ us Q I r ⟨_,_,rfl,ho.hereV sr vr_int⟩
 ·exact ho.elim
noncomputable def opDivmod:List AV->S->R AV
 | [.int i,.int j],s=>if 0 < j/\Mid j then .ok (.tup [.int (i / j),.int (i % j)]) s else .bad
 | _,_=>.bad
theorem cDivmod:CallR X (.builtin "divmod") (rCM T XE opDivmod):=by
 intro pins s σ H xs us Q I r ⟨ρ,args,st,sr,va,ho⟩
 unfold opDivmod at ho
 split at ho
 ·obtain⟨x,y,rfl,k,k2⟩:=va.two_inv
  cases k.int_inv
  cases k2.int_inv
  obtain⟨hl,ho⟩:=ho.ifInv
  exact call_divmodP pins s σ H _ us Q I r ⟨_,_,rfl,⟨hl.1,hl.2.f⟩,λ p hp=>ho.tup sr hp (.cons vr_int (.one vr_int))⟩
 ·exact ho.elim
def opInt:List AV->S->R AV
 | [.int i],s=>.ok (.int i) s
 | [.bl b],s=>.ok (.int (if b then 1 else 0)) s
 | _,_=>.bad
theorem cInt:CallR X (.type "int") (rCM T XE opInt):=by
 intro pins s σ H xs us Q I r ⟨ρ,args,st,sr,va,ho⟩
 unfold opInt at ho
 split at ho
 ·obtain⟨x,rfl,k⟩:=va.one_inv
  cases k.int_inv
  exact call_int1 pins s σ H _ us Q I r (.inl ⟨_,rfl,ho.hereV sr vr_int⟩)
 ·obtain⟨x,rfl,k⟩:=va.one_inv
  cases k.bl_inv
  exact call_int1 pins s σ H _ us Q I r (.inr ⟨_,rfl,ho.hereV sr vr_int⟩)
 ·exact ho.elim
def opLen:List AV->S->R AV
 | [.str z],s=>if z.length<=sizeLine then .ok (.int z.length) s else .bad
 | [v],s=>need (items v s) λ xs=>.ok (.int xs.length) s
 | _,_=>.bad
theorem cLen (hK:X.K=T.K):CallR X (.builtin "len") (rCM T XE opLen):=by
 intro pins s σ H xs us Q I r ⟨ρ,args,st,sr,va,ho⟩
 have rest:∀ v,args=[v]->Out T XE (rV T) ρ H (need (items v st) λ xs=>.ok (.int xs.length) st) Q->wpAny (model X.prog X.w) X.A (call (.builtin "len") us) (EP X pins σ Q) X.xe s:=by
  rintro v rfl ho
  obtain⟨ys,e,ho⟩:=ho.needInv
  obtain⟨x,rfl,k⟩:=va.one_inv
  obtain⟨a,vs,rfl,h1,k1⟩:=items_inv e sr k
  exact call_len_seq pins s σ H _ us Q I r ⟨a,vs,rfl,by rw[hK];exact h1,by rw[<-k1.length];exact ho.hereV sr vr_int⟩
 unfold opLen at ho
 split at ho
 ·obtain⟨x,rfl,k⟩:=va.one_inv
  cases k.str_inv
  obtain⟨hl,ho⟩:=ho.ifInv
  exact call_len_str pins s σ H _ us Q I r ⟨_,rfl,hl,ho.hereV sr vr_int⟩
 ·exact rest _ rfl ho
 ·exact ho.elim
def qLen (xs:List AV)(s:S):R AV:=.ok (.int xs.length) s
theorem cLenQ (hK:X.K=T.K):CallR X (.builtin "len") (rCQ T XE (rV T) qLen):=by
 intro pins s σ H xs us Q I r ⟨a,ws,ρ,ys,st,e,sr,h1,k,ho⟩
 subst e
 exact call_len_seq pins s σ H _ us Q I r ⟨a,ws,rfl,by rw[hK];exact h1,by rw[<-k.length];exact ho.hereV sr vr_int⟩
def blsO:List AV->Option (List Bool)
 | []=>some []
 | .bl i :: r=>(blsO r).map (i :: ·)
 | _ :: _=>none
theorem blsO_inv:∀ {l:List AV}{ns:List Bool},blsO l=some ns->l=ns.map .bl
 | [],_,h=>by cases h;rfl
 | v :: r,ns,h=>by
  cases v<;>try cases h
  rename_i i
  cases e:blsO r with
  | none=>rw[show blsO (.bl i :: r)=(blsO r).map (i :: ·) from rfl,e]at h;cases h
  | some q=>
   rw[show blsO (.bl i :: r)=(blsO r).map (i :: ·) from rfl,e]at h;cases h
   rw[blsO_inv e];rfl
@[simp] theorem blsO_map (ns:List Bool):blsO (ns.map .bl)=some ns:=by
 induction ns with
 | nil=>rfl
 | cons a r ih=>show(blsO (r.map .bl)).map (a :: ·)=_;rw[ih];rfl
def qAll (xs:List AV)(s:S):R AV:=need (blsO xs) λ ns=>.ok (.bl (ns.all id)) s
def rCL {α:Type}(T:Tx)(XE:XEt)(rl:Rl α V)(op:List AV->S->R α):List V->Hp->VK->Prop:=λ vs H Q=>∃ a ws ρ xs s,vs=[.ref a]/\SR T ρ s H/\H a=some (.lst ws)/\VRs T ρ H xs ws/\Out T XE rl ρ H (op xs s) Q
theorem cl_of {α:Type}{rl:Rl α V}{op:List AV->S->R α}{r:Evs}{σ:St}{H:Hp}{Q:VK}(h:tG T XE rl (gOp op r) σ H Q):tCB (rCL T XE rl op) (tCons (tL T XE r) tNil) σ H Q:=by
 obtain⟨ρ,env,s,hs,he,ho⟩:=h
 refine step hs he ho λ v s1 ρ1 H1 x _ u1 sr1 er1 vr1 ho1=>?_
 obtain⟨a,ws,rfl,_,_,q,k⟩:=vr1
 exact⟨a,ws,ρ1,v,s1,rfl,sr1,q,k,ho1⟩
theorem mg_BL {α:Type}{rl:Rl α V}{id:String}{op:List AV->S->R α}{x:Str}{p:Pos}{e:Expr}{r:Evs}(hc:CallR X (.builtin id) (rCL T XE rl op)) (hm:X.mg x=none)(hv:bootBuiltins x=some (.builtin id)) (ha:PE X e (tL T XE r)) (hg:Gl X x:=by rfl)(hn:x≠"__name__":=by decide)(hdb:(x == ("__debug__":Str))=false:=by decide)
  (he:starEach [e] X.env=(false,eval e X.env) :: starEach [] X.env:=by rfl) (hpl:(backTo pos (starEach [] X.env)).any (·.1)=false:=by rfl):PE X (.Call (.Name x p) [e] [] pos) (tG T XE rl (gOp op r)):=
 PE.imp (pe_callB hc hg hm hv (pa_cons ha pa_nil he) hn hdb he hpl) λ _ _ _ h=>cl_of h
theorem cAll (hc:X.calm=true):CallR X (.builtin "all") (rCL T XE (rV T) qAll):=by
 intro pins s σ H xs us Q I r ⟨a,ws,ρ,ys,st,e,sr,h1,k,ho⟩
 subst e
 obtain⟨ns,e,ho⟩:=ho.needInv
 rw[blsO_inv e]at k
 rw[k.bls_inv]at h1
 exact call_allL hc pins s σ H _ us Q I r ⟨a,ns,rfl,SqL.of h1,ho.hereV sr vr_bl⟩
def qList (xs:List AV)(s:S):R (List AV):=.ok xs s
theorem cList (hK:X.K=T.K):CallR X (.type "list") (rCQ T XE (rL T) qList):=by
 intro pins s σ H xs us Q I r ⟨a,ws,ρ,ys,st,e,sr,h1,k,ho⟩
 subst e
 exact call_list_of pins s σ H _ us Q I r ⟨a,ws,rfl,by rw[hK];exact h1,λ l hl=>ho.lst sr hl k⟩
def qTuple (xs:List AV)(s:S):R AV:=.ok (.tup xs) s
theorem cTuple (hK:X.K=T.K):CallR X (.type "tuple") (rCQ T XE (rV T) qTuple):=by
 intro pins s σ H xs us Q I r ⟨a,ws,ρ,ys,st,e,sr,h1,k,ho⟩
 subst e
 refine call_tuple_of pins s σ H _ us Q I r ⟨a,ws,rfl,?_⟩
 rcases h1 with h1|h1
 ·exact .inl ⟨by rw[hK];exact h1,λ l hl=>ho.tup sr hl k⟩
 ·exact .inr ⟨by rw[hK];exact h1,ho.hereV sr (vr_tup h1 k)⟩
def tagOf (v:AV)(s:S):Option String:=match v with
 | .non=>some "NoneType"
 | .bl _=>some "bool"
 | .int _=>some "int"
 | .str _=>some "str"
 | .tup _=>some "tuple"
 | .sq _=>some "list"
 | .ref i=>match s[i]? with
  | some (.lst _)=>some "list"
  | some (.dK _)=>some "dict"
  | some (.dT _)=>some "dict"
  | _=>none
def tyTags:List String:=["NoneType","bool","int","str","tuple","list","dict"]
def isTag (t n:String):Bool:=t == n || (t == "bool" && n == "int")
theorem kit_of {K:PySem.W.Frag}{t n:String}(ht:t∈tyTags)(hn:n∈tyTags):PySem.W.kitOne K (.type t) (.type n)=some (isTag t n):=by
 simp only[tyTags,List.mem_cons,List.not_mem_nil,or_false]at ht hn
 rcases ht with rfl|rfl|rfl|rfl|rfl|rfl|rfl<;>rcases hn with rfl|rfl|rfl|rfl|rfl|rfl|rfl<;>rfl
theorem tag_inv {ρ:List Addr}{H:Hp}{s:S}{v:AV}{t:String}{x:V}(h:tagOf v s=some t)(sr:SR T ρ s H)(va:VR T ρ H v x):TagV T.K H x t/\t∈tyTags:=by
 cases v with
 | non=>cases va.non_inv;cases h;exact⟨rfl,by simp[tyTags]⟩
 | bl c=>cases va.bl_inv;cases h;exact⟨rfl,by simp[tyTags]⟩
 | int c=>cases va.int_inv;cases h;exact⟨rfl,by simp[tyTags]⟩
 | str c=>cases va.str_inv;cases h;exact⟨rfl,by simp[tyTags]⟩
 | tup c=>obtain⟨a,vs,rfl,h1,k⟩:=va.tup_inv;cases h;exact⟨.inl ⟨rfl,vs,h1⟩,by simp[tyTags]⟩
 | sq c=>obtain⟨a,vs,rfl,h1,k⟩:=va.sq_inv;cases h;exact⟨.inr (.inl ⟨rfl,vs,h1.sqL⟩),by simp[tyTags]⟩
 | ref i=>
  have h:(match s[i]? with
  | some (.lst _)=>some "list"
  | some (.dK _)=>some "dict"
  | some (.dT _)=>some "dict"
  | _=>none)=some t:=h
  obtain⟨a,e1,rfl⟩:=va.ref_inv
  split at h
  ·rename_i xs e
   cases h
   obtain⟨b,e2,vs,h1,_⟩:=sr.obj i _ e
   rw[e1]at e2;cases e2
   exact⟨.inr (.inl ⟨rfl,vs,SqL.of h1⟩),by simp[tyTags]⟩
  ·rename_i xs e
   cases h
   obtain⟨b,e2,vs,h1,_⟩:=sr.obj i _ e
   rw[e1]at e2;cases e2
   exact⟨.inr (.inr ⟨rfl,.inl ⟨vs,h1⟩⟩),by simp[tyTags]⟩
  ·rename_i xs e
   cases h
   obtain⟨b,e2,vs,h1,_⟩:=sr.obj i _ e
   rw[e1]at e2;cases e2
   exact⟨.inr (.inr ⟨rfl,.inr ⟨vs,h1⟩⟩),by simp[tyTags]⟩
  ·cases h
def opIsi (n:String)(v:AV)(s:S):R AV:=need (tagOf v s) λ t=>.ok (.bl (isTag t n)) s
theorem me_isi {n:String}{nm:Str}{p p2:Pos}{e:Expr}{m:Ev}(hK:X.K=T.K)(hn:n∈tyTags)(hm:X.mg "isinstance"=none)(hm2:X.mg nm=none)(hv2:bootBuiltins nm=some (.type n)) (ha:PE X e (tE T XE m)) (hg:Gl X "isinstance":=by rfl)(hg2:Gl X nm:=by rfl)(hnn:nm≠"__name__":=by decide)(hdb:(nm == ("__debug__":Str))=false:=by decide)
  (he:starEach [e,.Name nm p2] X.env=(false,eval e X.env) :: starEach [.Name nm p2] X.env:=by rfl) (he2:starEach [.Name nm p2] X.env=(false,eval (.Name nm p2) X.env) :: starEach [] X.env:=by rfl) (hpl:(backTo pos (starEach [.Name nm p2] X.env)).any (·.1)=false:=by rfl) :
  PE X (.Call (.Name "isinstance" p) [e,.Name nm p2] [] pos) (tE T XE (mUn (opIsi n) m)):=
 PE.imp (pe_callB call_isT hg hm Ro.boot_isinstance (pa_cons ha (pa_cons (pe_bltn (v:=.ty n) hg2 hm2 hv2 rfl hnn hdb) pa_nil he2) he) (by decide) (by decide) he hpl) λ σ H Q ⟨ρ,env,s,hs,he,ho⟩=>
  step hs he ho λ v s1 ρ1 H1 x _ u1 sr1 er1 vr1 ho1=>by
   obtain⟨t,e,ho1⟩:=ho1.needInv
   obtain⟨h1,h2⟩:=tag_inv e sr1 vr1
   exact⟨t,x,n,_,rfl,by rw[hK];exact h1,kit_of h2 hn,ho1.hereV sr1 vr_bl⟩
end
end Mm
namespace Mm
open PySem L2
section
variable {T:Tx}{XE:XEt}{X:Cx}{pos:Pos}
def rMM (T:Tx)(XE:XEt)(op:AV->List AV->S->R AV):V->List V->Hp->VK->Prop:=λ x xs H Q=>∃ ρ v vs s,SR T ρ s H/\VR T ρ H v x/\VRs T ρ H vs xs/\Out T XE (rV T) ρ H (op v vs s) Q
def isTy (n:String)(v:AV)(s:S):Option Unit:=match v,n with
 | .str _,"str"=>some ()
 | .sq _,"list"=>some ()
 | .ref i,"list"=>(lstO s i).map λ _=>()
 | .ref i,"dict"=>match s[i]? with
  | some (.dK _)=>some ()
  | some (.dT _)=>some ()
  | _=>none
 | _,_=>none
theorem isTy_inv {n:String}{ρ:List Addr}{H:Hp}{s:S}{v:AV}{x:V}(h:isTy n v s=some ()) (sr:SR T ρ s H)(va:VR T ρ H v x):tyV T.K n x H:=by
 unfold isTy at h
 split at h
 ·cases va.str_inv;rfl
 ·obtain⟨a,vs,rfl,h1,k⟩:=va.sq_inv
  exact .inl ⟨rfl,vs,h1.sqL⟩
 ·rename_i i
  cases e:lstO s i with
  | none=>rw[e]at h;cases h
  | some xs=>
   obtain⟨a,vs,rfl,_,h1,k⟩:=sr.lstAt (lstO_inv e) va
   exact .inl ⟨rfl,vs,SqL.of h1⟩
 ·rename_i i
  obtain⟨a,e1,rfl⟩:=va.ref_inv
  split at h
  ·rename_i xs e
   obtain⟨b,e2,vs,h1,_⟩:=sr.obj i _ e
   rw[e1]at e2;cases e2
   exact .inr (.inr (.inl ⟨rfl,.inl ⟨vs,h1⟩⟩))
  ·rename_i xs e
   obtain⟨b,e2,vs,h1,_⟩:=sr.obj i _ e
   rw[e1]at e2;cases e2
   exact .inr (.inr (.inl ⟨rfl,.inr ⟨vs,h1⟩⟩))
  ·cases h
 ·cases h
def mMet (n:String)(op:AV->List AV->S->R AV)(o:Ev)(r:Evs):Ev:=λ env s=>(o env s).bind λ v s1=>need (isTy n v s1) λ _=>(r env s1).bind λ vs s2=>op v vs s2
theorem met_of {n:String}{op:AV->List AV->S->R AV}{o:Ev}{r:Evs}{σ:St}{H:Hp}{Q:VK}(h:tE T XE (mMet n op o r) σ H Q):tBM T.K n (rMM T XE op) (tE T XE o) (tP T XE r) σ H Q:=by
 obtain⟨ρ,env,s,hs,he,ho⟩:=h
 refine step hs he ho λ v s1 ρ1 H1 x _ u1 sr1 er1 vr1 ho1=>?_
 obtain⟨_,e,ho1⟩:=ho1.needInv
 exact⟨isTy_inv e sr1 vr1,step sr1 er1 ho1 λ vs s2 ρ2 H2 xs _ u2 sr2 er2 vr2 ho2=>⟨ρ2,v,vs,s2,sr2,VR.up u2 vr1,vr2,ho2⟩⟩
theorem me_met {n id:String}{name:Str}{apos cpos:Pos}{o e:Expr}{es:List Expr}{op:AV->List AV->S->R AV}{m:Ev}{r:Evs}(hK:X.K=T.K)(pa:PlainAttrs n)(slot:Slot n name id)(hty:typeOf (.builtin id)=pure (.type "method_descriptor")) (hm:MtR X id (rMM T XE op)) (ho:PE X o (tE T XE m)) (ha:PA X (e :: es) (tP T XE r))
  (hbase:attributeBase o name X.env (eval o X.env)=eval o X.env:=by rfl)
  (hfew:((backTo cpos (starEach (e :: es) X.env)).all (λ x=>!x.1) && (backToKw cpos (keywordEach [] X.env)).all (λ x=>x.1.isSome)
   && decide ((e :: es).length+([]:List Keyword).length+(if ([]:List Keyword).isEmpty then 0 else 1) < 30))=true:=by rfl)
  (hline:(apos.endLine == cpos.line)=true:=by rfl) (hs:starEach (e :: es) X.env=(false,eval e X.env) :: starEach es X.env:=by rfl) (hplain:(backTo cpos (starEach es X.env)).any (·.1)=false:=by rfl) :
  PE X (.Call (.Attribute o name apos) (e :: es) [] cpos) (tE T XE (mMet n op m r)):=
 PE.imp (pe_bmK hK pa slot hty hm ho ha hbase hfew hline hs hplain) λ _ _ _ h=>met_of h
def mMet0 (n:String)(op:AV->List AV->S->R AV)(o:Ev):Ev:=λ env s=>(o env s).bind λ v s1=>need (isTy n v s1) λ _=>op v [] s1
theorem Out.setL {α β:Type}{rl:Rl α β}{ρ:List Addr}{H:Hp}{s:S}{i:Nat}{a:Addr}{vs ws:List V}{ys:List AV}{v:α}{x:β}{Q:β->Hp->Prop}(ho:Out T XE rl ρ H (.ok v (s.set i (.lst ys))) Q) (sr:SR T ρ s H)(ea:ρ[i]? = some a)(h1:H a=some (.lst vs)) (k:VRs T ρ H ys ws)(hx:rl.r H ρ (upd H a (.lst ws)) v x):Q x (upd H a (.lst ws)):=by
 have up:Up ρ H ρ (upd H a (.lst ws)):=sr.upSet ea h1 (λ _ z=>nomatch z) (λ _ _ z=>nomatch z)
 exact ho ρ _ x up (sr.set ea up (OR.lst upd_same (k.up up))) hx
theorem Out.setLV {ρ:List Addr}{H:Hp}{s:S}{i:Nat}{a:Addr}{vs ws:List V}{ys:List AV}{v:AV}{x:V}{Q:VK}(ho:Out T XE (rV T) ρ H (.ok v (s.set i (.lst ys))) Q) (sr:SR T ρ s H)(ea:ρ[i]? = some a)(h1:H a=some (.lst vs)) (k:VRs T ρ H ys ws)(hx:VR T ρ (upd H a (.lst ws)) v x):Q x (upd H a (.lst ws)):=ho.setL sr ea h1 k hx
def opAppend:AV->List AV->S->R AV
 | .ref i,[w],s=>need (lstO s i) λ xs=>if xs.length < sizeLine then .ok .non (s.set i (.lst (xs++[w]))) else .bad
 | _,_,_=>.bad
theorem dAppend:MtR X "list.append" (rMM T XE opAppend):=by
 intro pins s σ H x xs v us Q I rx rv ⟨ρ,a,vs,st,sr,va,vb,ho⟩
 unfold opAppend at ho
 split at ho
 ·obtain⟨ys,e,ho⟩:=ho.needInv
  obtain⟨hl,ho⟩:=ho.ifInv
  obtain⟨p,ws,rfl,ea,h1,k⟩:=sr.lstAt (lstO_inv e) va
  obtain⟨y,rfl,k2⟩:=vb.one_inv
  exact mt_append pins s σ H _ _ v us Q I rx rv ⟨p,ws,y,rfl,rfl,h1,by rw[<-k.length];exact hl,ho.setLV sr ea h1 (k.append (.one k2)) vr_non⟩
 ·exact ho.elim
def opPop:AV->List AV->S->R AV
 | .ref i,[.int j],s=>need (lstO s i) λ xs=>if 0<=j/\j < xs.length then need xs[j.toNat]? λ y=>.ok y (s.set i (.lst (xs.eraseIdx j.toNat))) else .bad
 | _,_,_=>.bad
theorem VRs.erase {ρ:List Addr}{H:Hp}:∀ {l:List AV}{xs:List V}(i:Nat),VRs T ρ H l xs->VRs T ρ H (l.eraseIdx i) (xs.eraseIdx i)
 | [],_,_,h=>by cases h.nil_inv;exact .nil
 | _ :: _,_,0,h=>by obtain⟨x,ys,rfl,_,k⟩:=h.cons_inv;exact k
 | _ :: _,_,i+1,h=>by obtain⟨x,ys,rfl,k1,k⟩:=h.cons_inv;exact .cons k1 (VRs.erase i k)
theorem dPop:MtR X "list.pop" (rMM T XE opPop):=by
 intro pins s σ H x xs v us Q I rx rv ⟨ρ,a,vs,st,sr,va,vb,ho⟩
 unfold opPop at ho
 split at ho
 ·rename_i i0 j
  obtain⟨ys,e,ho⟩:=ho.needInv
  obtain⟨hj,ho⟩:=ho.ifInv
  obtain⟨y,ey,ho⟩:=ho.needInv
  obtain⟨p,ws,rfl,ea,h1,k⟩:=sr.lstAt (lstO_inv e) va
  obtain⟨z,rfl,k2⟩:=vb.one_inv
  cases k2.int_inv
  obtain⟨y',ey',ky⟩:=k.get ey
  have hl:=k.length
  obtain⟨its,_,_,hz⟩:=I.list (SqL.of h1)
  have h63:=line63
  have up:Up ρ H ρ (upd H p (.lst (ws.eraseIdx j.toNat))):=sr.upSet ea h1 (λ _ z=>nomatch z) (λ _ _ z=>nomatch z)
  refine mt_popAt pins s σ H _ _ v us Q I rx rv ⟨p,ws,j,j.toNat,y',rfl,rfl,h1,by omega,by omega,ix_ok hj.1 (by rw[<-hl];exact hj.2),ey',ho.setLV sr ea h1 (k.erase _) (VR.up up ky)⟩
 ·exact ho.elim
section
variable {κ:Type} [DecidableEq κ]
def valA:List (κ × AV)->κ->Option AV
 | [],_=>none
 | p :: r,k=>if p.1=k then some p.2 else valA r k
def putA (kvs:List (κ × AV)) (k:κ)(v:AV):List (κ × AV):=
 if (kvs.any λ kv=>decide (kv.1=k))=true then kvs.map (λ kv=>if kv.1=k then (kv.1,v) else kv) else kvs++[(k,v)]
theorem val_rel {ρ:List Addr}{H:Hp}(k:κ):∀ {kvs:List (κ × AV)}{ks:List (κ × V)},kvs.map (·.1)=ks.map (·.1)->VRs T ρ H (kvs.map (·.2)) (ks.map (·.2))->(∀ v,valA kvs k=some v->∃ x,valV ks k=some x/\VR T ρ H v x)/\(valA kvs k=none->valV ks k=none)
 | [],ks,e,h=>by
  cases ks with
  | nil=>exact⟨(λ v z=>nomatch z),λ _=>rfl⟩
  | cons a r=>cases e
 | p :: r,ks,e,h=>by
  cases ks with
  | nil=>cases e
  | cons q t=>
   rw[List.map_cons,List.map_cons,List.cons.injEq]at e
   rw[List.map_cons,List.map_cons]at h
   obtain⟨x,ys,e2,k1,k2⟩:=h.cons_inv
   rw[List.cons.injEq]at e2
   obtain⟨ih1,ih2⟩:=val_rel k e.2 (e2.2 ▸ k2)
   unfold valA
   by_cases hp:p.1=k
   ·rw[if_pos hp,valV_pos (e.1 ▸ hp)]
    refine⟨λ v z=>?_,λ z=>nomatch z⟩
    cases z
    exact⟨q.2,rfl,e2.1 ▸ k1⟩
   ·rw[if_neg hp,valV_neg (λ z=>hp (e.1.trans z))]
    exact⟨ih1,ih2⟩
theorem put_rel {ρ:List Addr}{H:Hp}(k:κ){v:AV}{x:V}(kv:VR T ρ H v x){kvs:List (κ × AV)}{ks:List (κ × V)}(e:kvs.map (·.1)=ks.map (·.1)) (h:VRs T ρ H (kvs.map (·.2)) (ks.map (·.2))) :
  (putA kvs k v).map (·.1)=(putK ks k x).map (·.1)/\VRs T ρ H ((putA kvs k v).map (·.2)) ((putK ks k x).map (·.2)):=by
 have an:∀ {kvs:List (κ × AV)}{ks:List (κ × V)},kvs.map (·.1)=ks.map (·.1)->(kvs.any λ kv=>decide (kv.1=k))=(ks.any λ kv=>decide (kv.1=k)):=by
  intro kvs
  induction kvs with
  | nil=>intro ks e;cases ks with|nil=>rfl|cons a r=>cases e
  | cons p r ih=>
   intro ks e
   cases ks with
   | nil=>cases e
   | cons q t=>
    rw[List.map_cons,List.map_cons,List.cons.injEq]at e
    rw[List.any_cons,List.any_cons,ih e.2,e.1]
 unfold putA putK
 rw[an e]
 by_cases ha:(ks.any λ kv=>decide (kv.1=k))=true
 ·rw[if_pos ha,if_pos ha]
  clear ha an
  induction kvs generalizing ks with
  | nil=>cases ks with|nil=>exact⟨rfl,.nil⟩|cons a r=>cases e
  | cons p r ih=>
   cases ks with
   | nil=>cases e
   | cons q t=>
    rw[List.map_cons,List.map_cons,List.cons.injEq]at e
    rw[List.map_cons,List.map_cons]at h
    obtain⟨y,ys,e2,k1,k2⟩:=h.cons_inv
    rw[List.cons.injEq]at e2
    obtain⟨i1,i2⟩:=ih e.2 (e2.2 ▸ k2)
    simp only[List.map_cons,e.1]
    by_cases hq:q.1=k
    ·rw[if_pos hq,if_pos hq,i1];exact⟨rfl,.cons kv i2⟩
    ·rw[if_neg hq,if_neg hq,i1,e.1];exact⟨rfl,.cons (e2.1 ▸ k1) i2⟩
 ·rw[if_neg ha,if_neg ha,List.map_append,List.map_append,List.map_append,List.map_append,e]
  exact⟨rfl,h.append (.one kv)⟩
end
def keyO:AV->Option Key
 | .int i=>some (.inl i)
 | .str x=>some (.inr x)
 | _=>none
theorem keyO_inv {ρ:List Addr}{H:Hp}{v:AV}{k:Key}{x:V}(h:keyO v=some k)(va:VR T ρ H v x):x=kV k:=by
 cases v<;>try cases h
 ·cases va.int_inv;rfl
 ·cases va.str_inv;rfl
def dKO (s:S)(i:Nat):Option (List (Key × AV)):=match s[i]? with
 | some (.dK xs)=>some xs
 | _=>none
theorem dKO_inv {s:S}{i:Nat}{xs:List (Key × AV)}(h:dKO s i=some xs):s[i]? = some (.dK xs):=by
 unfold dKO at h
 split at h
 ·cases h;assumption
 ·cases h
def opDget:AV->AV->S->R AV
 | .ref i,y,s=>need (dKO s i) λ kvs=>need (keyO y) λ k=>need (valA kvs k) λ v=>.ok v s
 | _,_,_=>.bad
theorem me_dget {o i:Expr}{m n:Ev}(hu:X.A.units+1 < cLine)(ho:PE X o (tE T XE m)) (hi:PE X i (tE T XE n)) (hs:NoSl i:=by exact λ _ _=>rfl):PE X (.Subscript o i pos) (tE T XE (mBin opDget m n)):=
 PE.imp (pe_dget hu ho hi hs) λ σ H Q ⟨ρ,env,s,hs,he,ho⟩=>step hs he ho λ v s1 ρ1 H1 x _ u1 sr1 er1 vr1 ho1=>step sr1 er1 ho1 λ w s2 ρ2 H2 y _ u2 sr2 er2 vr2 ho2=>by
  have vr1:VR T ρ2 H2 v x:=VR.up u2 vr1
  cases v with
  | ref i=>
   obtain⟨kvs,e1,ho2⟩:=ho2.needInv
   obtain⟨k,e2,ho2⟩:=ho2.needInv
   obtain⟨z,e3,ho2⟩:=ho2.needInv
   obtain⟨a,ks,rfl,ea,h1,q1,q2⟩:=sr2.dKAt (dKO_inv e1) vr1
   obtain⟨x',ex,kx⟩:=(val_rel k q1 q2).1 z e3
   exact⟨a,x',rfl,by rw[keyO_inv e2 vr2,<-ex];exact DGet.k h1,ho2.hereV sr2 kx⟩
  | _=>exact ho2.elim
theorem din_of {op:AV->AV->S->R AV}{b:Bool->Bool}(hop:∀ y w s,op y w s=(match w with|.ref i=>need (dKO s i) λ kvs=>need (keyO y) λ k=>.ok (.bl (b (valA kvs k).isSome)) s|_=>.bad)) {m n:Ev}{σ:St}{H:Hp}{Q:VK}(h:tE T XE (mBin op m n) σ H Q) :
  tE T XE m σ H λ y H1=>tE T XE n σ H1 λ x H2=>∃ a o,x=.ref a/\DGet H2 a y o/\Q (.bl (b o.isSome)) H2:=by
 obtain⟨ρ,env,s,hs,he,ho⟩:=h
 refine step hs he ho λ v s1 ρ1 H1 x _ u1 sr1 er1 vr1 ho1=>step sr1 er1 ho1 λ w s2 ρ2 H2 y _ u2 sr2 er2 vr2 ho2=>?_
 rw[hop]at ho2
 have vr2:VR T ρ2 H2 w y:=vr2
 cases w with
 | ref i=>
  obtain⟨kvs,e1,ho2⟩:=ho2.needInv
  obtain⟨k,e2,ho2⟩:=ho2.needInv
  obtain⟨a,ks,rfl,ea,h1,q1,q2⟩:=sr2.dKAt (dKO_inv e1) vr2
  have vk:=keyO_inv e2 (VR.up u2 vr1)
  refine⟨a,valV ks k,rfl,by rw[vk];exact DGet.k h1,?_⟩
  have:(valV ks k).isSome=(valA kvs k).isSome:=by
   cases ev:valA kvs k with
   | none=>rw[(val_rel k q1 q2).2 ev];rfl
   | some z=>obtain⟨x',ex,_⟩:=(val_rel k q1 q2).1 z ev;rw[ex];rfl
  rw[this]
  exact ho2.hereV sr2 vr_bl
 | _=>exact ho2.elim
def putD (v d y:AV)(env:En)(s:S):RS:=match d with
 | .ref i=>match dKO s i,keyO y with
  | some kvs,some k=>if kvs.length < sizeLine then .nx env (s.set i (.dK (putA kvs k v))) else .bad
  | _,_=>.bad
 | _=>.bad
def sDput (d y v:Ev):Ms:=λ env s=>(v env s).bindS λ a s1=>(d env s1).bindS λ b s2=>(y env s2).bindS λ c s3=>putD a b c env s3
theorem ms_dput {o i value:Expr}{pos':Pos}{m n r:Ev}(hu:X.A.units+1 < cLine)(ho:PE X o (tE T XE m)) (hi:PE X i (tE T XE n)) (hv:PE X value (tE T XE r)) (hs:swapsWith value (some (.Subscript o i pos')) pos.line X.env=pure false:=by rfl):PS X (.Assign [.Subscript o i pos'] value pos) (tS T XE (sDput m n r)):=
 PS.imp (ps_dput hu ho hi hv hs) λ D σ H ⟨ρ,env,s,hs,he,ho⟩=>stepS hs he ho λ v s1 ρ1 H1 x _ u1 sr1 er1 vr1 ho1=>stepS sr1 er1 ho1 λ d s2 ρ2 H2 y _ u2 sr2 er2 vr2 ho2=>stepS sr2 er2 ho2 λ c s3 ρ3 H3 z _ u3 sr3 er3 vr3 ho3=>by
  have vr2:VR T ρ3 H3 d y:=VR.up u3 vr2
  have vr1:VR T ρ3 H3 v x:=VR.up (u2.trans u3) vr1
  unfold putD at ho3
  split at ho3
  ·split at ho3
   ·rename_i i kvs k e1 e2
    obtain⟨hl,ho3⟩:=ho3.ifInv
    obtain⟨a,ks,rfl,ea,h1,q1,q2⟩:=sr3.dKAt (dKO_inv e1) vr2
    have hkl:kvs.length=ks.length:=by have:=congrArg List.length q1;simpa using this
    refine⟨a,_,rfl,by rw[keyO_inv e2 vr3];exact DPut.k h1 (by rw[<-hkl];exact hl),?_⟩
    obtain⟨p1,p2⟩:=put_rel k vr1 q1 q2
    have up:Up ρ3 H3 ρ3 (upd H3 a (.dK (putK ks k x))):=sr3.upSet ea h1 (λ _ z=>nomatch z) (λ _ _ z=>nomatch z)
    exact ho3 ρ3 _ σ up (sr3.set ea up ⟨_,upd_same,p1,p2.up up⟩) (er3.up up)
   ·exact ho3.elim
  ·exact ho3.elim
def opGet2 (d y z:AV)(s:S):R AV:=match d with
 | .ref i=>need (dKO s i) λ kvs=>need (keyO y) λ k=>.ok ((valA kvs k).getD z) s
 | _=>.bad
def mGet2 (d y z:Ev):Ev:=λ env s=>(d env s).bind λ a s1=>need (isTy "dict" a s1) λ _=>(y env s1).bind λ b s2=>(z env s2).bind λ c s3=>opGet2 a b c s3
def mD0:Ev:=λ _ s=>.ok (.ref s.length) (s++[.dK []])
theorem me_d0:PE X (.Dict [] [] pos) (tE T XE mD0):=
 PE.imp pe_dnewK λ σ H Q ⟨ρ,env,s,hs,he,ho⟩ p hp=>ho.alloc hs hp ⟨[],upd_same,rfl,.nil⟩
def prs:List (Ev × Ev)->En->S->R (List (AV × AV))
 | [],_,s=>.ok [] s
 | (a,b) :: r,env,s=>(a env s).bind λ v s1=>(b env s1).bind λ w s2=>(prs r env s2).bind λ l s3=>.ok ((v,w) :: l) s3
def keysO:List (AV × AV)->Option (List (Key × AV))
 | []=>some []
 | (a,b) :: r=>(keyO a).bind λ k=>(keysO r).map ((k,b) :: ·)
def mergeA (kvs more:List (Key × AV)):List (Key × AV):=more.foldl (λ acc kv=>putA acc kv.1 kv.2) kvs
def mDisp (l:List (Ev × Ev)):Ev:=λ env s=>(prs l env s).bind λ ps s1=>need (keysO ps) λ kvs=>if kvs.length<=15 then .ok (.ref s1.length) (s1++[.dK (mergeA [] kvs)]) else .bad
def VRp (T:Tx)(ρ:List Addr)(H:Hp)(ps:List (AV × AV)) (xs:List (V × V)):Prop:=VRs T ρ H (ps.map (·.1)) (xs.map (·.1))/\VRs T ρ H (ps.map (·.2)) (xs.map (·.2))
theorem bind_assoc {α β γ:Type}(r:R α)(f:α->S->R β)(g:β->S->R γ):(r.bind f).bind g=r.bind λ a s=>(f a s).bind g:=by cases r<;>rfl
theorem pairs_of {α β:Type}{rl:Rl α β}{Q:β->Hp->Prop}{env:En}{σ:St}:∀ (l:List (Ev × Ev)) {ρ:List Addr}{s:S}{H:Hp}{k:List (AV × AV)->S->R α}{F:List (V × V)->Hp->Prop},SR T ρ s H->ER T ρ H env σ->Out T XE rl ρ H ((prs l env s).bind k) Q->
  (∀ ps s1 ρ1 H1 xs,prs l env s=.ok ps s1->Up ρ H ρ1 H1->SR T ρ1 s1 H1->ER T ρ1 H1 env σ->VRp T ρ1 H1 ps xs->F xs H1)->tPairs (l.map λ p=>(tE T XE p.1,tE T XE p.2)) σ H F
 | [],ρ,s,H,k,F,hs,he,ho,hk=>hk [] s ρ H [] rfl .refl hs he ⟨.nil,.nil⟩
 | (a,b) :: r,ρ,s,H,k,F,hs,he,ho,hk=>by
  have e:(prs ((a,b) :: r) env s).bind k=(a env s).bind λ v s1=>(b env s1).bind λ w s2=>(prs r env s2).bind λ l s3=>k ((v,w) :: l) s3:=by
   show((a env s).bind λ v s1=>(b env s1).bind λ w s2=>(prs r env s2).bind λ l s3=>.ok ((v,w) :: l) s3).bind k=_
   rw[bind_assoc]
   congr 1;funext v s1
   rw[bind_assoc]
   congr 1;funext w s2
   rw[bind_assoc]
   rfl
  rw[e]at ho
  refine step hs he ho λ v s1 ρ1 H1 x q1 u1 sr1 er1 vr1 ho1=>step sr1 er1 ho1 λ w s2 ρ2 H2 y q2 u2 sr2 er2 vr2 ho2=>?_
  refine pairs_of r sr2 er2 ho2 λ ps s3 ρ3 H3 xs q3 u3 sr3 er3 vp=>hk ((v,w) :: ps) s3 ρ3 H3 _ (by have q1:a env s=.ok v s1:=q1;have q2:b env s1=.ok w s2:=q2;show((a env s).bind λ v s1=>(b env s1).bind λ w s2=>(prs r env s2).bind λ l s3=>.ok ((v,w) :: l) s3)=_;rw[q1,bind_ok,q2,bind_ok,q3,bind_ok]) ((u1.trans u2).trans u3) sr3 er3 ⟨?_,?_⟩
  ·exact .cons (VR.up (u2.trans u3) vr1) vp.1
  ·exact .cons (VR.up u3 vr2) vp.2
theorem keysO_inv {ρ:List Addr}{H:Hp}:∀ {ps:List (AV × AV)}{kvs:List (Key × AV)}{xs:List (V × V)},keysO ps=some kvs->VRp T ρ H ps xs->∃ ks:List (Key × V),xs=ks.map (λ kv=>(kV kv.1,kv.2))/\kvs.map (·.1)=ks.map (·.1)/\VRs T ρ H (kvs.map (·.2)) (ks.map (·.2))
 | [],kvs,xs,h,vp=>by
  cases h
  have:=vp.1.nil_inv
  cases xs with
  | nil=>exact⟨[],rfl,rfl,.nil⟩
  | cons a r=>cases this
 | (a,b) :: r,kvs,xs,h,vp=>by
  have h:(keyO a).bind (λ k=>(keysO r).map ((k,b) :: ·))=some kvs:=h
  cases e1:keyO a with
  | none=>rw[e1]at h;cases h
  | some k=>
   cases e2:keysO r with
   | none=>rw[e1,e2]at h;cases h
   | some q=>
    rw[e1,e2]at h
    cases h
    cases xs with
    | nil=>obtain⟨_,_,z,_⟩:=vp.1.cons_inv;cases z
    | cons p xs=>
     obtain⟨x1,y1,z1,k1,k2⟩:=vp.1.cons_inv
     obtain⟨x2,y2,z2,k3,k4⟩:=vp.2.cons_inv
     rw[List.map_cons,List.cons.injEq]at z1 z2
     obtain⟨ks,rfl,q1,q2⟩:=keysO_inv e2 ⟨z1.2 ▸ k2,z2.2 ▸ k4⟩
     refine⟨(k,p.2) :: ks,?_,by rw[List.map_cons,List.map_cons,q1],.cons (z2.1 ▸ k3) q2⟩
     rw[List.map_cons,<-keyO_inv e1 (z1.1 ▸ k1)]
theorem merge_rel {ρ:List Addr}{H:Hp}:∀ {more:List (Key × AV)}{mo:List (Key × V)}{kvs:List (Key × AV)}{ks:List (Key × V)},more.map (·.1)=mo.map (·.1)->VRs T ρ H (more.map (·.2)) (mo.map (·.2))->kvs.map (·.1)=ks.map (·.1)->VRs T ρ H (kvs.map (·.2)) (ks.map (·.2))->
  (mergeA kvs more).map (·.1)=(mergeK ks mo).map (·.1)/\VRs T ρ H ((mergeA kvs more).map (·.2)) ((mergeK ks mo).map (·.2))
 | [],mo,kvs,ks,e,h,e2,h2=>by
  cases mo with
  | nil=>exact⟨e2,h2⟩
  | cons a r=>cases e
 | p :: r,mo,kvs,ks,e,h,e2,h2=>by
  cases mo with
  | nil=>cases e
  | cons q t=>
   rw[List.map_cons,List.map_cons,List.cons.injEq]at e
   rw[List.map_cons,List.map_cons]at h
   obtain⟨y,ys,z,k1,k2⟩:=h.cons_inv
   rw[List.cons.injEq]at z
   obtain⟨p1,p2⟩:=put_rel p.1 (z.1 ▸ k1) e2 h2
   have:=merge_rel (kvs:=putA kvs p.1 p.2) (ks:=putK ks q.1 q.2) e.2 (z.2 ▸ k2) (by rw[<-e.1];exact p1) (by rw[<-e.1];exact p2)
   exact this
theorem me_disp {keys:List (Option Expr)}{values:List Expr}{l:List (Ev × Ev)}(h:PPs X pos keys values (l.map λ p=>(tE T XE p.1,tE T XE p.2))) (hall:keys.all (·.isSome)=true:=by rfl) (hl:keys.length=values.length:=by rfl)(h0:keys≠[]:=by decide)(h15:keys.length<=15:=by decide):PE X (.Dict keys values pos) (tE T XE (mDisp l)):=
 PE.imp (pe_disp h hall hl h0 h15) λ σ H Q ⟨ρ,env,s,hs,he,ho⟩ p hp=>by
  have u0:=hs.upNew (o:=.dK []) hp
  have n0:=hs.out hp
  refine pairs_of l (hs.new hp) (he.up u0) (Out.up u0 ho) λ ps s1 ρ1 H1 xs q0 u1 sr1 er1 vp=>?_
  unfold mDisp at ho
  rw[q0,bind_ok]at ho
  obtain⟨kvs,e1,ho⟩:=ho.needInv
  obtain⟨hl,ho⟩:=ho.ifInv
  obtain⟨ks,rfl,q1,q2⟩:=keysO_inv e1 vp
  have hd:=u1.fr p _ upd_same n0
  have hkl:kvs.length=ks.length:=by have:=congrArg List.length q1;simpa using this
  refine⟨hd.1,ks,rfl,by rw[<-hkl];exact hl,?_⟩
  obtain⟨m1,m2⟩:=merge_rel q1 q2 (kvs:=[]) (ks:=[]) rfl .nil
  have g:Gr ρ1 H1 (ρ1++[p]) (upd H1 p (.dK (mergeK [] ks))):=⟨List.prefix_append _ _,λ b ys e=>by rw[upd_ne (ne_of e hd.1 (by intro z;cases z))];exact e,λ b o v e=>by rw[upd_ne (ne_of e hd.1 (by intro z;cases z))];exact e⟩
  have g1:Gr ρ1 H1 ρ1 (upd H1 p (.dK (mergeK [] ks))):=⟨List.prefix_rfl,g.tups,g.frzs⟩
  have s2:SR T ρ1 s1 (upd H1 p (.dK (mergeK [] ks))):=sr1.up g1 λ a ha=>upd_ne λ z=>hd.2 (z ▸ ha)
  have s3:SR T (ρ1++[p]) (s1++[.dK (mergeA [] kvs)]) (upd H1 p (.dK (mergeK [] ks))):=s2.add hd.2 ⟨_,upd_same,m1,m2.gr g⟩
  have u2:Up ρ H (ρ1++[p]) (upd H1 p (.dK (mergeK [] ks))):=((u0.trans u1).mod hp hd.2).add hp
  exact ho _ _ _ u2 s3 (vr_ref (T:=T) (H:=upd H1 p (.dK (mergeK [] ks))) (by rw[List.getElem?_append_right (by rw[sr1.len];exact Nat.le_refl _),sr1.len,Nat.sub_self];rfl))
theorem mps_nil:PPs X pos [] [] (([]:List (Ev × Ev)).map λ p=>(tE T XE p.1,tE T XE p.2)):=pps_nil
theorem mps_cons {k v:Expr}{ks:List (Option Expr)}{vs:List Expr}{a b:Ev}{l:List (Ev × Ev)}(hk:PE X k (tE T XE a)) (hv:PE X v (tE T XE b)) (hr:PPs X pos ks vs (l.map λ p=>(tE T XE p.1,tE T XE p.2))):PPs X pos (some k :: ks) (v :: vs) (((a,b) :: l).map λ p=>(tE T XE p.1,tE T XE p.2)):=pps_cons hk hv hr
def gSubL (o i:Ev):Mt:=λ v env s=>(o env s).bindS λ a s1=>(i env s1).bindS λ b s2=>match a,b with
 | .ref k,.int j=>match lstO s2 k with
  | some xs=>match ixN xs.length j with
   | some n=>.nx env (s2.set k (.lst (xs.set n v)))
   | none=>.bad
  | none=>.bad
 | _,_=>.bad
theorem mg_subL {o i:Expr}{m n:Ev}(ho:PE X o (tE T XE m)) (hi:PE X i (tE T XE n))
  (ha:∀ v,assign (.Subscript o i pos) X.env v=(do
   let ov <-holding [v] (eval o X.env)
   let iv <-holding [v,ov] (eval i X.env)
   standAt pos
   holding [v,ov,iv] (setItem ov iv v)
   release [v,ov,iv] []):=by intro _;rfl):PG X (.Subscript o i pos) (tT T XE (gSubL m n)):=
 PG.imp (pg_sub ho hi set_list ha) λ x σ H Q ⟨ρ,env,s,v,hs,he,vr,ho⟩=>by
  refine stepS hs he ho λ a s1 ρ1 H1 y _ u1 sr1 er1 vr1 ho1=>stepS sr1 er1 ho1 λ b s2 ρ2 H2 z _ u2 sr2 er2 vr2 ho2=>?_
  have vr1:VR T ρ2 H2 a y:=VR.up u2 vr1
  have vr2:VR T ρ2 H2 b z:=vr2
  have vr:VR T ρ2 H2 v x:=VR.up (u1.trans u2) vr
  split at ho2
  ·rename_i k j
   split at ho2
   ·rename_i xs e1
    split at ho2
    ·rename_i n e2
     obtain⟨p,ws,rfl,ea,h1,k1⟩:=sr2.lstAt (lstO_inv e1) vr1
     cases vr2.int_inv
     have up:Up ρ2 H2 ρ2 (upd H2 p (.lst (ws.set n x))):=sr2.upSet ea h1 (λ _ z=>nomatch z) (λ _ _ z=>nomatch z)
     exact⟨p,ws,_,n,rfl,rfl,h1,by rw[<-k1.length];exact e2,ho2 ρ2 _ σ up (sr2.set ea up (OR.lst upd_same ((k1.set n vr).up up))) (er2.up up)⟩
    ·exact ho2.elim
   ·exact ho2.elim
  ·exact ho2.elim
theorem on_subL {o i:Ev}:GoesOn (gSubL o i):=λ v env s=>by
 unfold gSubL
 cases o env s with
 | bad=>exact .inr (.inr rfl)
 | ex c s1=>exact .inr (.inl ⟨_,_,rfl⟩)
 | ok a s1=>
  simp only[bindS_ok]
  cases i env s1 with
  | bad=>exact .inr (.inr rfl)
  | ex c s1=>exact .inr (.inl ⟨_,_,rfl⟩)
  | ok b s2=>
   simp only[bindS_ok]
   split
   ·split
    ·split
     ·exact .inl ⟨_,_,rfl⟩
     ·exact .inr (.inr rfl)
    ·exact .inr (.inr rfl)
   ·exact .inr (.inr rfl)
def flatA:AV->Bool
 | .non=>true
 | .bl _=>true
 | .int _=>true
 | .str _=>true
 | _=>false
def toV:AV->V
 | .bl b=>.bl b
 | .int b=>.int b
 | .str b=>.str b
 | _=>.non
theorem toV_eq {ρ:List Addr}{H:Hp}{v:AV}{x:V}(h:flatA v=true)(k:VR T ρ H v x):x=toV v:=by
 cases v with
 | non=>exact k.non_inv
 | bl b=>exact k.bl_inv
 | int b=>exact k.int_inv
 | str b=>exact k.str_inv
 | _=>cases h
theorem toVs_eq {ρ:List Addr}{H:Hp}:∀ {l:List AV}{xs:List V},l.all flatA=true->VRs T ρ H l xs->xs=l.map toV
 | [],_,_,k=>k.nil_inv
 | v :: r,_,h,k=>by
  obtain⟨x,ys,rfl,k1,k2⟩:=k.cons_inv
  rw[List.all_cons,Bool.and_eq_true]at h
  rw[toV_eq h.1 k1,toVs_eq h.2 k2];rfl
theorem flat_toV:∀ v:AV,flatV (toV v)=true:=λ v=>by cases v<;>rfl
def inA (v:AV)(xs:List AV):Bool:=inV (toV v) (xs.map toV)
def opIn (v w:AV)(s:S):R AV:=need (items w s) λ xs=>if flatA v=true/\xs.all flatA=true then .ok (.bl (inA v xs)) s else .bad
def opNin (v w:AV)(s:S):R AV:=need (items w s) λ xs=>if flatA v=true/\xs.all flatA=true then .ok (.bl (!inA v xs)) s else .bad
theorem oIn (hK:X.K=T.K):OpR X (compareOp .In) (r2M T XE opIn):=by
 intro pins s σ H x y v u Q I rx ry ⟨ρ,a,b,st,sr,va,vb,ho⟩
 obtain⟨xs,e,ho⟩:=ho.needInv
 obtain⟨⟨f1,f2⟩,ho⟩:=ho.ifInv
 obtain⟨p,ws,rfl,h1,k⟩:=items_inv e sr vb
 have e1:=toV_eq f1 va
 have e2:=toVs_eq f2 k
 subst e1 e2
 exact op_in_seq pins s σ H _ _ v u Q I rx ry ⟨p,_,rfl,by rw[hK];exact h1,flat_toV a,by simp[flat_toV],ho.hereV sr vr_bl⟩
theorem oNin (hK:X.K=T.K):OpR X (compareOp .NotIn) (r2M T XE opNin):=by
 intro pins s σ H x y v u Q I rx ry ⟨ρ,a,b,st,sr,va,vb,ho⟩
 obtain⟨xs,e,ho⟩:=ho.needInv
 obtain⟨⟨f1,f2⟩,ho⟩:=ho.ifInv
 obtain⟨p,ws,rfl,h1,k⟩:=items_inv e sr vb
 have e1:=toV_eq f1 va
 have e2:=toVs_eq f2 k
 subst e1 e2
 exact op_notIn_seq pins s σ H _ _ v u Q I rx ry ⟨p,_,rfl,by rw[hK];exact h1,flat_toV a,by simp[flat_toV],ho.hereV sr vr_bl⟩
def opCount:AV->List AV->S->R AV
 | .ref i,[w],s=>need (lstO s i) λ xs=>if flatA w=true/\xs.all flatA=true then .ok (.int ((xs.countP λ z=>eqV (toV z) (toV w):Nat):Int)) s else .bad
 | _,_,_=>.bad
theorem dCount:MtR X "list.count" (rMM T XE opCount):=by
 intro pins s σ H x xs v us Q I rx rv ⟨ρ,a,vs,st,sr,va,vb,ho⟩
 unfold opCount at ho
 split at ho
 ·obtain⟨ys,e,ho⟩:=ho.needInv
  obtain⟨⟨f1,f2⟩,ho⟩:=ho.ifInv
  obtain⟨p,ws,rfl,ea,h1,k⟩:=sr.lstAt (lstO_inv e) va
  obtain⟨y,rfl,k2⟩:=vb.one_inv
  have e1:=toV_eq f1 k2
  have e2:=toVs_eq f2 k
  subst e1 e2
  refine mt_count pins s σ H _ _ v us Q I rx rv ⟨p,_,_,rfl,rfl,h1,flat_toV _,by simp[flat_toV],?_⟩
  rw[List.countP_map]
  exact ho.hereV sr vr_int
 ·exact ho.elim
end
end Mm
namespace Mm
open PySem L2
section
variable {T:Tx}{XE:XEt}{X:Cx}{pos:Pos}
structure Fk (P:Program)(w:World)(T:Tx)(mg:Str->Option Value)(base:Heap)(nm:Str)(n k:Nat)(Fn:List AV->S->R AV):Prop where
 ex:∃ f fd ps,FnOk P w T.K mg base CX0 k f fd ps (spOf T n Fn)/\Binds T.K fd ps []/\mg nm=some (.ref f)/\PySem.W.keepIn T.K (.ref f)=true
theorem me_F {k n:Nat}{Fn:List AV->S->R AV}{x:Str}{p:Pos}{e:Expr}{es:List Expr}{r:Evs}(h:Fk X.prog X.w T X.mg X.base x n k Fn)(hr:Room k X.A)(ha:PA X (e :: es) (tP T XE0 r)) (hK:X.K=T.K:=by rfl)(hg:Gl X x:=by rfl)(hdb:(x == ("__debug__":Str))=false:=by decide) (he:starEach (e :: es) X.env=(false,eval e X.env) :: starEach es X.env:=by rfl) (hpl:(backTo pos (starEach es X.env)).any (·.1)=false:=by rfl) :
  PE X (.Call (.Name x p) (e :: es) [] pos) (tE T XE0 (mCall n Fn r)):=by
 obtain⟨f,fd,ps,G,hb,hm,hk⟩:=h.ex
 exact me_call hK G hr hm hk hb ha hg hdb he hpl
structure Kst (T:Tx)(mg:Str->Option Value)(x:Str)(a:AV):Prop where
 ex:∃ v u,mg x=some u/\RelV v u/\∀ ρ H,VR T ρ H a v
theorem me_kst {x:Str}{a:AV}(h:Kst T X.mg x a)(hg:Gl X x:=by rfl)(hd:(x == ("__debug__":Str))=false:=by decide):PE X (.Name x pos) (tE T XE (mc a)):=by
 obtain⟨v,u,h1,h2,h3⟩:=h.ex
 exact me_glob hg h1 h2 h3 hd
theorem hu30 {k:Nat}{A:Around}(r:Room k A):A.units+30 < cLine:=by have:=r.un;omega
noncomputable def gcB (m:Eb):Eb:=λ env s=>(m env s).bind λ v s1=>open Classical in if s1.take s.length=s then .ok v s else .bad
theorem pt_gc {e:Expr}{m:Eb}(h:PT X e (tC' T XE m)):PT X e (tC' T XE (gcB m)):=
 PT.imp h λ σ H Q ⟨ρ,env,s,hs,he,ho⟩=>by
  refine⟨ρ,env,s,hs,he,?_⟩
  unfold gcB at ho
  cases e:m env s with
  | bad=>rw[e]at ho;exact ho
  | ex c s1=>rw[e]at ho;exact ho
  | ok v s1=>
   rw[e]at ho
   obtain⟨e1,ho⟩:=ho.ifInv
   intro ρ1 H1 x u sr vr
   have:=sr.cut u.pre hs.len (by rw[e1];exact hs.closed)
   rw[e1]at this
   exact ho ρ H1 x u.cut this vr
def rMG {α:Type}(T:Tx)(XE:XEt)(rl:Rl α V)(op:AV->List AV->S->R α):V->List V->Hp->VK->Prop:=λ x xs H Q=>∃ ρ v vs s,SR T ρ s H/\VR T ρ H v x/\VRs T ρ H vs xs/\Out T XE rl ρ H (op v vs s) Q
def gMet {α:Type}(n:String)(op:AV->List AV->S->R α)(o:Ev)(r:Evs):En->S->R α:=λ env s=>(o env s).bind λ v s1=>need (isTy n v s1) λ _=>(r env s1).bind λ vs s2=>op v vs s2
theorem mg_met {α:Type}{rl:Rl α V}{n id:String}{name:Str}{apos cpos:Pos}{o e:Expr}{es:List Expr}{op:AV->List AV->S->R α}{m:Ev}{r:Evs}(hK:X.K=T.K)(pa:PlainAttrs n)(slot:Slot n name id)(hty:typeOf (.builtin id)=pure (.type "method_descriptor")) (hm:MtR X id (rMG T XE rl op)) (ho:PE X o (tE T XE m)) (ha:PA X (e :: es) (tP T XE r))
  (hbase:attributeBase o name X.env (eval o X.env)=eval o X.env:=by rfl)
  (hfew:((backTo cpos (starEach (e :: es) X.env)).all (λ x=>!x.1) && (backToKw cpos (keywordEach [] X.env)).all (λ x=>x.1.isSome)
   && decide ((e :: es).length+([]:List Keyword).length+(if ([]:List Keyword).isEmpty then 0 else 1) < 30))=true:=by rfl)
  (hline:(apos.endLine == cpos.line)=true:=by rfl) (hs:starEach (e :: es) X.env=(false,eval e X.env) :: starEach es X.env:=by rfl) (hplain:(backTo cpos (starEach es X.env)).any (·.1)=false:=by rfl) :
  PE X (.Call (.Attribute o name apos) (e :: es) [] cpos) (tG T XE rl (gMet n op m r)):=
 PE.imp (pe_bmK hK pa slot hty hm ho ha hbase hfew hline hs hplain) λ σ H Q ⟨ρ,env,s,hs,he,ho⟩=>by
  refine step hs he ho λ v s1 ρ1 H1 x _ u1 sr1 er1 vr1 ho1=>?_
  obtain⟨_,e,ho1⟩:=ho1.needInv
  exact⟨isTy_inv e sr1 vr1,step sr1 er1 ho1 λ vs s2 ρ2 H2 xs _ u2 sr2 er2 vr2 ho2=>⟨ρ2,v,vs,s2,sr2,VR.up u2 vr1,vr2,ho2⟩⟩
open PySem.Builtin.Str in
def opSplit:AV->List AV->S->R (List AV)
 | .str t,[.str sep],s=>if (decide (t.length < sep.length) || decide (strKind t < strKind sep))=false/\(sep.length == 0)=false/\(occurrences t sep 0 t.length (t.length+1)).isEmpty=false/\t.length<=1000/\(partsBetween t (occurrences t sep 0 t.length (t.length+1)) sep.length).length<=1000
   then .ok ((partsBetween t (occurrences t sep 0 t.length (t.length+1)) sep.length).map AV.str) s else .bad
 | _,_,_=>.bad
theorem dSplit:MtR X "str.split" (rMG T XE (rL T) opSplit):=by
 intro pins s σ H x xs v us Q I rx rv ⟨ρ,a,vs,st,sr,va,vb,ho⟩
 unfold opSplit at ho
 split at ho
 ·obtain⟨⟨c1,c2,c3,c4,c5⟩,ho⟩:=ho.ifInv
  cases va.str_inv
  obtain⟨y,rfl,k2⟩:=vb.one_inv
  cases k2.str_inv
  exact mt_split pins s σ H _ _ v us Q I rx rv ⟨_,_,rfl,rfl,c1,c2,c3,c4,c5,λ l hl=>ho.lst sr hl (VRs.map (λ a=>vr_str) _)⟩
 ·exact ho.elim
def zipA (xs ys:List AV):List AV:=(xs.zip ys).map λ p=>AV.tup [p.1,p.2]
def seqK (c:Bool)(v:AV)(s:S):Option (List AV × Gd):=match v with
 | .tup xs=>if c=true then some (xs,[]) else none
 | .sq xs=>if c=true then none else some (xs,[])
 | .ref i=>if c=true then none else (lstO s i).map λ xs=>(xs,[(i,xs)])
 | _=>none
theorem seqK_inv {c:Bool}{ρ:List Addr}{H:Hp}{s:S}{v:AV}{xs:List AV}{gs:Gd}{x:V}(h:seqK c v s=some (xs,gs)) (sr:SR T ρ s H)(va:VR T ρ H v x):∃ a,x=.ref a/\(∃ vs,SqK c T.K H a vs)/\∀ ρ' s' H',Up ρ H ρ' H'->SR T ρ' s' H'->gOk gs s'->∃ vs,SqK c T.K H' a vs/\VRs T ρ' H' xs vs:=by
 cases v with
 | tup ys=>
  have h:(if c=true then some (ys,[]) else none)=some (xs,gs):=h
  split at h
  ·rename_i hc
   cases h
   obtain⟨a,vs,rfl,h1,k⟩:=va.tup_inv
   refine⟨a,rfl,⟨vs,by unfold SqK;rw[if_pos hc];exact h1⟩,λ ρ' s' H' u sr' _=>⟨vs,by unfold SqK;rw[if_pos hc];exact u.sqT h1,k.up u⟩⟩
  ·cases h
 | sq ys=>
  have h:(if c=true then none else some (ys,[]))=some (xs,gs):=h
  split at h
  ·cases h
  ·rename_i hc
   cases h
   obtain⟨a,vs,rfl,h1,k⟩:=va.sq_inv
   refine⟨a,rfl,⟨vs,by unfold SqK;rw[if_neg hc];exact h1.sqL⟩,λ ρ' s' H' u sr' _=>⟨vs,by unfold SqK;rw[if_neg hc];exact(u.sqF h1).sqL,k.up u⟩⟩
 | ref i=>
  have h:(if c=true then none else (lstO s i).map λ xs=>(xs,[(i,xs)]))=some (xs,gs):=h
  split at h
  ·cases h
  ·rename_i hc
   cases e:lstO s i with
   | none=>rw[e]at h;cases h
   | some ys=>
    rw[e]at h
    cases h
    obtain⟨a,vs,rfl,ea,h1,k⟩:=sr.lstAt (lstO_inv e) va
    refine⟨a,rfl,⟨vs,by unfold SqK;rw[if_neg hc];exact SqL.of h1⟩,λ ρ' s' H' u sr' g=>?_⟩
    obtain⟨b,ws,eb,_,h2,k2⟩:=sr'.lstAt (lstO_inv ((gOk_one i _ s').mp g)) (VR.up u va)
    cases eb
    exact⟨ws,by unfold SqK;rw[if_neg hc];exact SqL.of h2,k2⟩
 | _=>cases h
def zipO (v w:AV)(s:S):Option (List AV × Gd):=
 match seqK true v s,seqK true w s with
 | some (xs,g),some (ys,h)=>some (zipA xs ys,g++h)
 | _,_=>match seqK false v s,seqK false w s with
  | some (xs,g),some (ys,h)=>some (zipA xs ys,g++h)
  | _,_=>none
theorem zipO_inv {v w:AV}{s:S}{r:List AV × Gd}(h:zipO v w s=some r):∃ c xs g ys h,seqK c v s=some (xs,g)/\seqK c w s=some (ys,h)/\r=(zipA xs ys,g++h):=by
 unfold zipO at h
 split at h
 ·rename_i xs g ys h' e1 e2
  cases h
  exact⟨true,xs,g,ys,h',e1,e2,rfl⟩
 ·split at h
  ·rename_i xs g ys h' e1 e2
   cases h
   exact⟨false,xs,g,ys,h',e1,e2,rfl⟩
  ·cases h
def srcZ (a b:Ev):Src:=λ env s=>(a env s).bind λ v s1=>(b env s1).bind λ w s2=>need (zipO v w s2) λ r=>.ok r s2
theorem gOk_app {g h:Gd}{s:S}(k:gOk (g++h) s):gOk g s/\gOk h s:=⟨λ p hp=>k p (List.mem_append_left _ hp),λ p hp=>k p (List.mem_append_right _ hp)⟩
theorem mi_zip {es:List Expr}{kk:Nat}{tpos:Pos}{e1 e2:Expr}{p:Pos}{a b:Ev}(hK:X.K=T.K)(hm:X.mg "zip"=none)(h1:PE X e1 (tE T XE a)) (h2:PE X e2 (tE T XE b)) (hg:Gl X "zip":=by rfl)
  (hs:starEach [e1,e2] X.env=(false,eval e1 X.env) :: starEach [e2] X.env:=by rfl) (hs2:starEach [e2] X.env=[(false,eval e2 X.env)]:=by rfl) (hpl:(backTo pos (starEach [e2] X.env)).any (·.1)=false:=by rfl) :
  PI X (.Tuple es kk tpos) (.Call (.Name "zip" p) [e1,e2] [] pos) (tW T XE (srcZ a b)):=
 PI.imp (pi_zip hg hm h1 h2 hs hs2 hpl) λ σ H R ⟨ρ,env,s,hs,he,ho⟩=>step hs he ho λ v s1 ρ1 H1 x _ u1 sr1 er1 vr1 ho1=>step sr1 er1 ho1 λ w s2 ρ2 H2 y _ u2 sr2 er2 vr2 ho2=>by
  obtain⟨r,e,ho2⟩:=ho2.needInv
  obtain⟨c,xs,g,ys,h,q1,q2,rfl⟩:=zipO_inv e
  obtain⟨a1,rfl,x1,w1⟩:=seqK_inv q1 sr2 (VR.up u2 vr1)
  obtain⟨a2,rfl,x2,w2⟩:=seqK_inv q2 sr2 vr2
  refine⟨c,a1,a2,rfl,by rw[hK];exact x1,by rw[hK];exact x2,ho2 ρ2 H2 _ .refl sr2 ⟨λ ρ' s' H' u' sr' gk=>?_⟩⟩
  obtain⟨g1,g2⟩:=gOk_app gk
  obtain⟨vs,k1,k2⟩:=w1 ρ' s' H' u' sr' g1
  obtain⟨ws,k3,k4⟩:=w2 ρ' s' H' u' sr' g2
  rw[hK]
  have hl1:=k2.length
  have hl2:=k4.length
  refine⟨λ j z ez=>?_,⟨vs,ws,k1,k3,?_⟩⟩
  ·have hj:j < xs.length/\j < ys.length:=by
    have:=(List.getElem?_eq_some_iff.mp ez).1
    simp only[zipA,List.length_map,List.length_zip]at this
    omega
   have ez':z=.tup [xs[j],ys[j]]:=by
    have q:(zipA xs ys)[j]? = some (.tup [xs[j],ys[j]]):=by
     simp[zipA,List.getElem?_zip_eq_some,hj.1,hj.2]
    rw[q]at ez
    exact(Option.some.inj ez).symm
   subst ez'
   obtain⟨x3,e3,v3⟩:=k2.get (List.getElem?_eq_getElem hj.1)
   obtain⟨x4,e4,v4⟩:=k4.get (List.getElem?_eq_getElem hj.2)
   refine⟨⟨vs,ws,x3,x4,k1,k3,e3,e4⟩,λ q H'' ⟨Tt,y1,y2,eq,hT,eH,hy⟩=>?_⟩
   obtain⟨f1,f2⟩:=hy vs ws k1 k3
   rw[e3]at f1;rw[e4]at f2
   cases f1;cases f2
   subst eq eH
   exact⟨sr'.upNew hT,sr'.new hT,vr_tup (SqT.of upd_same) (VRs.up (sr'.upNew hT) (.cons v3 (.one v4)))⟩
  ·rw[<-hl1,<-hl2]
   simp only[zipA,List.length_map,List.length_zip]
   omega
end
end Mm
namespace Mm
open PySem PySem.W PyProof.Rows
def krun {α:Type}(lt:Nat->Nat->Bool):KasT α->α
 | .ret a=>a
 | .ask i j k=>krun lt (k (lt i j))
theorem krun_bind {α β:Type}(lt:Nat->Nat->Bool)(f:α->KasT β):∀ t:KasT α,krun lt (t.bind f)=krun lt (f (krun lt t))
 | .ret a=>rfl
 | .ask i j k=>krun_bind lt f (k (lt i j))
section
variable {O:KeyOrd}{key:Nat->O.α}
def kat (key:Nat->O.α)(p:Array Nat)(i:Nat):O.α:=key (p.getD i 0)
abbrev ltK (O:KeyOrd)(key:Nat->O.α):Nat->Nat->Bool:=λ i j=>O.blt (key i) (key j)
def Srt (key:Nat->O.α)(p:Array Nat)(k:Nat):Prop:=∀ i j,i<=j->j < k->O.kle (kat key p i) (kat key p j)
theorem getD_of {p q:Array Nat}{i j:Nat}(h:p[i]? = q[j]?):p.getD i 0=q.getD j 0:=by
 rw[Array.getD_eq_getD_getElem?,Array.getD_eq_getD_getElem?,h]
theorem place_ok {p:Array Nat}{k:Nat}(hs:Srt key p k):∀ (f l r:Nat),l<=r->r<=k->r - l<=f->(∀ i,i < l->O.kle (kat key p i) (kat key p k))->(∀ i,r<=i->i < k->O.klt (kat key p k) (kat key p i))->
  let m:=krun (ltK O key) (kas_place p k f l r)
  m<=k/\(∀ i,i < m->O.kle (kat key p i) (kat key p k))/\∀ i,m<=i->i < k->O.klt (kat key p k) (kat key p i)
 | 0,l,r,h1,h2,h3,h4,h5=>⟨(by show l<=k;omega),h4,λ i h6 h7=>h5 i (by have h6:l<=i:=h6;omega) h7⟩
 | f+1,l,r,h1,h2,h3,h4,h5=>by
  by_cases hl:l ≥ r
  ·have e:krun (ltK O key) (kas_place p k (f+1) l r)=l:=by
    show krun (ltK O key) (if l ≥ r then .ret l else _)=l
    rw[if_pos hl];rfl
   rw[e]
   exact⟨by omega,h4,λ i h6 h7=>h5 i (by omega) h7⟩
  ·by_cases c:ltK O key (p.getD k 0) (p.getD ((l+r) / 2) 0)=true
   ·have e:krun (ltK O key) (kas_place p k (f+1) l r)=krun (ltK O key) (kas_place p k f l ((l+r) / 2)):=by
     show krun (ltK O key) (if l ≥ r then .ret l else .ask (p.getD k 0) (p.getD ((l+r) / 2) 0) λ c=>if c=true then kas_place p k f l ((l+r) / 2) else kas_place p k f ((l+r) / 2+1) r)=_
     rw[if_neg hl]
     show krun (ltK O key) (if ltK O key (p.getD k 0) (p.getD ((l+r) / 2) 0)=true then kas_place p k f l ((l+r) / 2) else kas_place p k f ((l+r) / 2+1) r)=_
     rw[if_pos c]
    rw[e]
    exact place_ok hs f l ((l+r) / 2) (by omega) (by omega) (by omega) h4 λ i h6 h7=>KeyOrd.klt_of_klt_of_kle (O:=O) c (hs _ i h6 h7)
   ·have e:krun (ltK O key) (kas_place p k (f+1) l r)=krun (ltK O key) (kas_place p k f ((l+r) / 2+1) r):=by
     show krun (ltK O key) (if l ≥ r then .ret l else .ask (p.getD k 0) (p.getD ((l+r) / 2) 0) λ c=>if c=true then kas_place p k f l ((l+r) / 2) else kas_place p k f ((l+r) / 2+1) r)=_
     rw[if_neg hl]
     show krun (ltK O key) (if ltK O key (p.getD k 0) (p.getD ((l+r) / 2) 0)=true then kas_place p k f l ((l+r) / 2) else kas_place p k f ((l+r) / 2+1) r)=_
     rw[if_neg c]
    rw[e]
    exact place_ok hs f ((l+r) / 2+1) r (by omega) h2 (by omega) (λ i hi=>KeyOrd.kle_trans (hs i ((l+r) / 2) (by omega) (by omega)) (KeyOrd.kle_of_not_klt c)) h5
theorem kat_bub {p:Array Nat}{k l:Nat}(hk:k < p.size)(hl:l<=k)(i:Nat):kat key (bubble p k (k - l)) i=if i=l then kat key p k else if l < i/\i<=k then kat key p (i - 1) else kat key p i:=by
 have h:=getElem?_bubble (xs:=p) hk (k - l) (by omega) i
 rw[show k - (k - l)=l by omega]at h
 by_cases hi:i=l
 ·rw[if_pos hi]at h ⊢;unfold kat;rw[getD_of h]
 ·rw[if_neg hi]at h ⊢
  by_cases h2:l < i/\i<=k
  ·rw[if_pos h2]at h ⊢;unfold kat;rw[getD_of h]
  ·rw[if_neg h2]at h ⊢;unfold kat;rw[getD_of h]
theorem bin_ok:∀ (f:Nat)(p:Array Nat)(k:Nat),k+f<=p.size->Srt key p k->
  let r:=krun (ltK O key) (kas_bin f p k)
  Srt key r (k+f)/\r.size=p.size/\r.Perm p
 | 0,p,k,h1,h=>⟨h,rfl,Array.Perm.refl _⟩
 | f+1,p,k,h1,h=>by
  obtain⟨b1,b2,b3⟩:=place_ok (key:=key) h k 0 k (Nat.zero_le _) (Nat.le_refl _) (by omega) (λ i hi=>by omega) (λ i h2 h3=>by omega)
  have e:krun (ltK O key) (kas_bin (f+1) p k)=krun (ltK O key) (kas_bin f (bubble p k (k - krun (ltK O key) (kas_place p k k 0 k))) (k+1)):=by
   show krun (ltK O key) ((kas_place p k k 0 k).bind λ l=>kas_bin f (bubble p k (k - l)) (k+1))=_
   rw[krun_bind]
  rw[e]
  generalize krun (ltK O key) (kas_place p k k 0 k)=l at *
  have sz:(bubble p k (k - l)).size=p.size:=bubble_size _ _ _
  have kb:∀ i,kat key (bubble p k (k - l)) i=if i=l then kat key p k else if l < i/\i<=k then kat key p (i - 1) else kat key p i:=kat_bub (by omega) b1
  have s1:Srt key (bubble p k (k - l)) (k+1):=λ i j h2 h3=>by
   rw[kb,kb]
   by_cases hi:i=l
   ·rw[if_pos hi]
    by_cases hj:j=l
    ·rw[if_pos hj];exact KeyOrd.kle_refl _
    ·rw[if_neg hj,if_pos (by omega)]
     exact KeyOrd.kle_of_klt (b3 (j - 1) (by omega) (by omega))
   ·rw[if_neg hi]
    by_cases hi2:l < i/\i<=k
    ·rw[if_pos hi2,if_neg (by omega),if_pos (by omega)]
     exact h _ _ (by omega) (by omega)
    ·rw[if_neg hi2]
     by_cases hj:j=l
     ·rw[if_pos hj];exact b2 i (by omega)
     ·rw[if_neg hj]
      by_cases hj2:l < j/\j<=k
      ·rw[if_pos hj2];exact h _ _ (by omega) (by omega)
      ·rw[if_neg hj2];exact h _ _ h2 (by omega)
  obtain⟨c1,c2,c3⟩:=bin_ok f (bubble p k (k - l)) (k+1) (by rw[sz];omega) s1
  exact⟨by rw[show k+(f+1)=k+1+f by omega];exact c1,by rw[c2,sz],c3.trans (bubble_perm _ _ _)⟩
end
end Mm
namespace Mm
open PySem PySem.W PyProof.Rows
def InR {α:Type}(n:Nat)(Po:α->Prop):KasT α->Prop
 | .ret a=>Po a
 | .ask i j k=>i < n/\j < n/\∀ b,InR n Po (k b)
def AllLt (n:Nat)(p:Array Nat):Prop:=∀ i,p.getD i 0 < n
theorem place_in {n:Nat}{p:Array Nat}(h:AllLt n p)(k:Nat):∀ (f l r:Nat),InR n (λ _=>True) (kas_place p k f l r)
 | 0,l,r=>trivial
 | f+1,l,r=>by
  show InR n _ (if l ≥ r then .ret l else .ask (p.getD k 0) (p.getD ((l+r) / 2) 0) λ c=>if c=true then kas_place p k f l ((l+r) / 2) else kas_place p k f ((l+r) / 2+1) r)
  split
  ·trivial
  ·refine⟨h _,h _,λ c=>?_⟩
   show InR n _ (if c=true then kas_place p k f l ((l+r) / 2) else kas_place p k f ((l+r) / 2+1) r)
   split
   ·exact place_in h k f _ _
   ·exact place_in h k f _ _
section
variable {prog:Program}{w:World}{A:Around}{E:Value->Shared->Prop}{s:Shared}{a:Addr}{vs:List Value}
end
end Mm
namespace L2
open PySem PySem.Spec PyProof.Rows
abbrev oS:KeyOrd:=strKind.toKeyOrd
end L2
namespace Mm
open PySem PySem.W PyProof.Rows
section
variable {prog:Program}{w:World}{A:Around}{E:Value->Shared->Prop}{s:Shared}{a:Addr}{vs:List Value}
end
end Mm
namespace L2
open PySem PySem.Spec PyProof.Rows
end L2
namespace Mm
open PySem L2
section
variable {T:Tx}{XE:XEt}{X:Cx}{pos:Pos}
end
end Mm
namespace Ro
open PySem L2 Mm
theorem boot_min:bootBuiltins "min"=some (.builtin "min"):=by decide +kernel
def fuel1 (env:En):Nat:=match (env[(1:Nat)]?:Option (Option AV)) with
 | some (some (.int i))=>i.natAbs+1
 | _=>0
def fuelL (env:En):Nat:=match (env[(4:Nat)]?:Option (Option AV)) with
 | some (some (.int i))=>i.natAbs+1
 | _=>0
noncomputable def b_greatest_divisor:Ms:=
 (sSeq (sPar 0 1 (pCons (mOp opAbs (pCons (mv 0) pNil)) (pCons (mOp opAbs (pCons (mv 1) pNil)) pNil)))
 (sSeq (sWhl (λ env _=>fuel1 env) (cB (mBin opNe (mv 1) (mc (.int 0)))) (sPar 0 1 (pCons (mv 1) (pCons (mBin opMod (mv 0) (mv 1)) pNil))))
 (sRet (mv 0))))
noncomputable def f_greatest_divisor:List AV->S->R AV:=fnR 2 b_greatest_divisor
noncomputable def b__law_begin:Ms:=
 (sSeq (sSet 1 (mNew (gOp qList (lIts (mSl (mv 0) oN (oS (mc (.int 63))))))))
 (sSeq (sIf (gcB (cB (mBin opEq (mv 1) (mNew (lLst pNil))))) (sSet 1 (mNew (lLst (pCons (mc (.int 7)) pNil)))) sSkip)
 (sRet (mDisp [((mc (.str "cells")),(mv 1)),((mc (.str "turn")),(mc (.int 0)))]))))
noncomputable def f__law_begin:List AV->S->R AV:=fnR 2 b__law_begin
noncomputable def b__law_take:Ms:=
 (sSeq (sSet 2 (mBin opAdd (mBin opDget (mv 0) (mc (.str "turn"))) (mc (.int 1))))
 (sSeq (sDput (mv 0) (mc (.str "turn")) (mv 2))
 (sSeq (sSet 3 (mBin opMod (mv 2) (mOp opLen (pCons (mBin opDget (mv 0) (mc (.str "cells"))) pNil))))
 (sSeq (sSet 4 (mBin opIx (mBin opDget (mv 0) (mc (.str "cells"))) (mv 3)))
 (sSeq (sIf (cB (mBin opGe (mv 4) (mBin opPow (mc (.int 10)) (mc (.int 18))))) (sSeq (sAsg (mOp opDivmod (pCons (mv 4) (pCons (mv 1) pNil))) (gT 2 (gCons' (gSubL (mBin opDget (mv 0) (mc (.str "cells"))) (mv 3)) (gCons' (gN 6) gNil'))))
 (sRet (mv 6))) sSkip)
 (sSeq (sSet 5 (mBin opMod (mBin opMul (mBin opAdd (mBin opAdd (mBin opMod (mv 4) (mc (.int 2147483629))) (mBin opMul (mBin opMul (mv 2) (mv 2)) (mc (.int 7919)))) (mc (.int 11))) (mc (.int 48271))) (mc (.int 2147483647))))
 (sSeq (sSet 5 (mBin opMod (mBin opMul (mv 5) (mv 5)) (mc (.int 2147483587))))
 (sRet (mBin opMod (mBin opFdiv (mBin opMod (mBin opMul (mBin opAdd (mv 5) (mBin opMul (mv 2) (mc (.int 104729)))) (mc (.int 39373))) (mc (.int 2147483629))) (mc (.int 64))) (mv 1))))))))))
noncomputable def f__law_take:List AV->S->R AV:=fnR 7 b__law_take
noncomputable def b__law_lowest:Ms:=
 (sSeq (sPar 3 4 (pCons (mOp opAbs (pCons (mv 0) pNil)) (pCons (mOp opAbs (pCons (mv 1) pNil)) pNil)))
 (sSeq (sWhl (λ env _=>fuelL env) (cB (mBin opGt (mv 4) (mc (.int 0)))) (sPar 3 4 (pCons (mv 4) (pCons (mBin opMod (mv 3) (mv 4)) pNil))))
 (sSeq (sSet 2 (mIf (cB (mBin opLt (mv 1) (mc (.int 0)))) (mUn opNeg (mc (.int 1))) (mc (.int 1))))
 (sRet (mTup (pCons (mBin opFdiv (mBin opMul (mv 2) (mv 0)) (mv 3)) (pCons (mBin opFdiv (mBin opMul (mv 2) (mv 1)) (mv 3)) pNil)))))))
noncomputable def f__law_lowest:List AV->S->R AV:=fnR 5 b__law_lowest
noncomputable def b__law_part:Ms:=
 (sSeq (sSet 1 (gcM (mBin opIx (mNew (lLst (pCons (mc (.int 2)) (pCons (mc (.int 3)) (pCons (mc (.int 4)) (pCons (mc (.int 5)) (pCons (mc (.int 10)) (pCons (mBin opAdd (mc (.int 1)) (mCall 2 f__law_take (pCons (mv 0) (pCons (mc (.int 60)) pNil)))) pNil)))))))) (mCall 2 f__law_take (pCons (mv 0) (pCons (mc (.int 6)) pNil))))))
 (sRet (mCall 2 f__law_lowest (pCons (mBin opAdd (mc (.int 1)) (mCall 2 f__law_take (pCons (mv 0) (pCons (mv 1) pNil)))) (pCons (mv 1) pNil)))))
noncomputable def f__law_part:List AV->S->R AV:=fnR 2 b__law_part
end Ro
namespace Sx
open PySem
end Sx
namespace Sx
open PySem PyProof.Rows
section
variable {prog:Program}{w:World}{K:Type} [DecidableEq K] {knd:PySem.KeyKind prog w K}{A:Around}{E:Value->Shared->Prop}{s:Shared}{a:Addr}{ks:List K}{k:K}{x:Value}
end
end Sx
namespace Sx
open PySem PyProof.Rows
section
variable {prog:Program}{w:World}{A:Around}{E:Value->Shared->Prop}{s:Shared}{a:Addr}{es:Array (Int × Value)}{ep:Nat}{t:SetTable}
end
end Sx
namespace Sx
open PySem PyProof.Rows
section
variable {prog:Program}{w:World}{A:Around}{E:Value->Shared->Prop}{s:Shared}{a I:Addr}{es:Array (Int × Value)}{ep i sl:Nat}{t:SetTable}
end
end Sx
namespace Sx
open PySem PyProof.Rows
section
variable {prog:Program}{w:World}{K:Type} [DecidableEq K] {knd:PySem.KeyKind prog w K}{A:Around}{E:Value->Shared->Prop}{s:Shared}{a:Addr}{ks:List K}
end
end Sx
namespace Sx
open PySem PyProof.Rows
section
variable {prog:Program}{w:World}{K:Type} [DecidableEq K] {knd:PySem.KeyKind prog w K}{A:Around}{E:Value->Shared->Prop}{s:Shared}{a:Addr}{ks:List K}
end
end Sx
namespace Sx
open PySem PyProof.Rows
section
variable {prog:Program}{w:World}{K:Type} [DecidableEq K] {knd:PySem.KeyKind prog w K}{A:Around}{R:Result->Shared->Prop}{I:Addr}{fp wr:List Addr}{G:Array GenState->Array GenState->Prop}{n:Nat}{P:Nat->Value->Prop}{St:Nat->Shared->Prop}
end
section
variable {prog:Program}{w:World}{K:Type} [DecidableEq K] {knd:PySem.KeyKind prog w K}{A:Around}{E:Value->Shared->Prop}{s:Shared}
end
end Sx
namespace L2
open PySem PySem.Spec PyProof.Rows
section
variable {X:Cx}{elt tg iter tg1 iter1:Expr}{ifs ifs1:List Expr}{scope:Scope}{pos:Pos}{wi wi1:TI}{g g1:TG}{tt tt1:TT}{te:TE}
end
end L2
namespace L2
open PySem PySem.Spec PyProof.Rows Sx
section
variable {K:Type} [DecidableEq K] {enc:K->V}
end
section
variable {X:Cx}{elt tg iter:Expr}{ifs:List Expr}{scope:Scope}{pos:Pos}{wi:TI}{g:TG}{tt:TT}{te:TE}
end
end L2
namespace Mm
open PySem L2 Sx
section
variable {T:Tx}{XE:XEt}{X:Cx}{pos:Pos}
end
end Mm
namespace Mm
open PySem L2
theorem szl {n:Nat}(h:n<=1000):n<=sizeLine:=Nat.le_of_lt (small1000 h)
def R.wp {α:Type}:R α->(α->S->Prop)->Prop
 | .ok a s,Q=>Q a s
 | _,_=>False
def RS.wp:RS->(En->S->Prop)->(AV->S->Prop)->Prop
 | .nx e s,N,_=>N e s
 | .rt v s,_,T=>T v s
 | _,_,_=>False
theorem R.wp.mono {α:Type}{m:R α}{Q Q':α->S->Prop}(h:m.wp Q)(k:∀ a s,Q a s->Q' a s):m.wp Q':=by
 cases m with
 | ok a s=>exact k a s h
 | ex c s=>exact h.elim
 | bad=>exact h.elim
theorem RS.wp.mono {m:RS}{N N':En->S->Prop}{T T':AV->S->Prop}(h:m.wp N T)(k:∀ a s,N a s->N' a s)(l:∀ a s,T a s->T' a s):m.wp N' T':=by
 cases m with
 | nx a s=>exact k a s h
 | rt a s=>exact l a s h
 | _=>exact h.elim
theorem R.wp.get {α:Type}{m:R α}{Q:α->S->Prop}(h:m.wp Q):∃ a s,m=.ok a s/\Q a s:=by
 cases m with
 | ok a s=>exact⟨a,s,rfl,h⟩
 | ex c s=>exact h.elim
 | bad=>exact h.elim
theorem R.wp.eq {α:Type}{m:R α}{v:α}{s:S}(h:m.wp (λ a s'=>a=v/\s'=s)):m=.ok v s:=by
 obtain⟨a,s',e,rfl,rfl⟩:=h.get;exact e
theorem wp_ok {α:Type}(a:α)(s:S)(Q:α->S->Prop):(R.ok a s).wp Q=Q a s:=rfl
theorem wp_bind {α β:Type}(m:R α)(f:α->S->R β)(Q:β->S->Prop):(m.bind f).wp Q=m.wp λ a s=>(f a s).wp Q:=by
 cases m<;>rfl
theorem wp_bindS {α:Type}(m:R α)(f:α->S->RS)(N:En->S->Prop)(T:AV->S->Prop):(m.bindS f).wp N T=m.wp λ a s=>(f a s).wp N T:=by
 cases m<;>rfl
theorem wp_calm {α:Type}(m:R α)(Q:α->S->Prop):m.calm.wp Q=m.wp Q:=by
 cases m<;>rfl
theorem wp_if {α:Type}(c:Prop){_:Decidable c}(m:R α)(Q:α->S->Prop):(if c then m else .bad).wp Q=(c/\m.wp Q):=by
 by_cases h:c
 ·rw[if_pos h];exact propext ⟨λ k=>⟨h,k⟩,λ k=>k.2⟩
 ·rw[if_neg h];exact propext ⟨λ k=>k.elim,λ k=>(h k.1).elim⟩
theorem wp_ifS (c:Prop){_:Decidable c}(m:RS)(N:En->S->Prop)(T:AV->S->Prop):(if c then m else .bad).wp N T=(c/\m.wp N T):=by
 by_cases h:c
 ·rw[if_pos h];exact propext ⟨λ k=>⟨h,k⟩,λ k=>k.2⟩
 ·rw[if_neg h];exact propext ⟨λ k=>k.elim,λ k=>(h k.1).elim⟩
theorem wp_iff2 (c:Prop){_:Decidable c}{α:Type}(m n:R α)(Q:α->S->Prop):(if c then m else n).wp Q=if c then m.wp Q else n.wp Q:=by
 by_cases h:c
 ·rw[if_pos h,if_pos h]
 ·rw[if_neg h,if_neg h]
theorem wp_iff2S (c:Prop){_:Decidable c}(m n:RS)(N:En->S->Prop)(T:AV->S->Prop):(if c then m else n).wp N T=if c then m.wp N T else n.wp N T:=by
 by_cases h:c
 ·rw[if_pos h,if_pos h]
 ·rw[if_neg h,if_neg h]
theorem wp_need {α γ:Type}(x:γ)(f:γ->R α)(Q:α->S->Prop):(need (some x) f).wp Q=(f x).wp Q:=rfl
theorem len_sz:(([]:List AV).length<=sizeLine)=True/\(∀ a:AV,([a].length<=sizeLine)=True)/\(∀ a b:AV,([a,b].length<=sizeLine)=True)/\(∀ a b c:AV,([a,b,c].length<=sizeLine)=True)/\
  (∀ a b c d e f:AV,([a,b,c,d,e,f].length<=sizeLine)=True)/\
  (([]:List AV).length=0)=True/\(∀ a:AV,([a].length=1)=True)/\(∀ a b:AV,([a,b].length=2)=True)/\(∀ a b c:AV,([a,b,c].length=3)=True):=by
 refine⟨?_,?_,?_,?_,?_,?_,?_,?_,?_⟩<;>intros<;>first|exact eq_true rfl|exact eq_true (szl (by show(_:Nat)<=1000;simp))
theorem WS :
  (∀ (a b:Ms) (env:En) (s:S) (N:En->S->Prop) (T:AV->S->Prop),(sSeq a b env s).wp N T=(a env s).wp (λ e s1=>(b e s1).wp N T) T)/\
  (∀ (i:Nat) (m:Ev) (env:En) (s:S) (N:En->S->Prop) (T:AV->S->Prop),(sSet i m env s).wp N T=(m env s).wp λ v s1=>N (env.set i (some v)) s1)/\
  (∀ (m:Ev) (env:En) (s:S) (N:En->S->Prop) (T:AV->S->Prop),(sRet m env s).wp N T=(m env s).wp T)/\
  (∀ (c:Eb) (a b:Ms) (env:En) (s:S) (N:En->S->Prop) (T:AV->S->Prop),(sIf c a b env s).wp N T=(c env s).wp λ k s1=>if k=true then (a env s1).wp N T else (b env s1).wp N T)/\
  (∀ (m:Ev) (env:En) (s:S) (N:En->S->Prop) (T:AV->S->Prop),(sExpr m env s).wp N T=(m env s).wp λ _ s1=>N env s1)/\
  (∀ (m:Ev) (g:Mt) (env:En) (s:S) (N:En->S->Prop) (T:AV->S->Prop),(sAsg m g env s).wp N T=(m env s).wp λ v s1=>(g v env s1).wp N T)/\
  (∀ (i j:Nat) (a b:Ev) (env:En) (s:S) (N:En->S->Prop) (T:AV->S->Prop),(sPar i j (pCons a (pCons b pNil)) env s).wp N T=(a env s).wp λ v s1=>(b env s1).wp λ w s2=>N ((env.set i (some v)).set j (some w)) s2)/\
  (∀ (env:En) (s:S) (N:En->S->Prop) (T:AV->S->Prop),(sSkip env s).wp N T=N env s)/\
  (∀ (src:Src) (tgt:Mt) (b:Ms) (env:En) (s:S) (N:En->S->Prop) (T:AV->S->Prop),(sFor src tgt b env s).wp N T=(src env s).wp λ p s1=>(forL tgt b p.2 p.1 env s1).wp N T)/\
  (∀ (d y v:Ev) (env:En) (s:S) (N:En->S->Prop) (T:AV->S->Prop),(sDput d y v env s).wp N T=(v env s).wp λ a s1=>(d env s1).wp λ b s2=>(y env s2).wp λ c s3=>(putD a b c env s3).wp N T)/\
  (∀ (i:Nat) (v:AV) (env:En) (s:S) (N:En->S->Prop) (T:AV->S->Prop),(gN i v env s).wp N T=N (env.set i (some v)) s)/\
  (∀ (n:Nat) (r:Mts) (vs:List AV) (env:En) (s:S) (N:En->S->Prop) (T:AV->S->Prop),(gT n r (.tup vs) env s).wp N T=(vs.length=n/\(r vs env s).wp N T))/\
  (∀ (i:Nat) (r:Mts) (v:AV) (w:List AV) (env:En) (s:S) (N:En->S->Prop) (T:AV->S->Prop),(gCons' (gN i) r (v :: w) env s).wp N T=(r w (env.set i (some v)) s).wp N T)/\
  (∀ (env:En) (s:S) (N:En->S->Prop) (T:AV->S->Prop),(gNil' [] env s).wp N T=N env s)/\
  (∀ (o i:Ev) (r:Mts) (v:AV) (w:List AV) (env:En) (s:S) (N:En->S->Prop),(gCons' (gSubL o i) r (v :: w) env s).wp N (λ _ _=>False)=(gSubL o i v env s).wp (λ e s1=>(r w e s1).wp N (λ _ _=>False)) (λ _ _=>False))/\
  (∀ (n:Nat) (b:Ms) (v:AV) (s:S) (Q:AV->S->Prop),(fnR n b [v] s).wp Q=(b (some v :: List.replicate (n - 1) none) s).wp (λ _ s1=>Q .non s1) Q)/\
  (∀ (n:Nat) (b:Ms) (v w:AV) (s:S) (Q:AV->S->Prop),(fnR n b [v,w] s).wp Q=(b (some v :: some w :: List.replicate (n - 2) none) s).wp (λ _ s1=>Q .non s1) Q)/\
  (∀ (n:Nat) (b:Ms) (v w x:AV) (s:S) (Q:AV->S->Prop),(fnR n b [v,w,x] s).wp Q=(b (some v :: some w :: some x :: List.replicate (n - 3) none) s).wp (λ _ s1=>Q .non s1) Q):=by
 refine⟨?_,?_,?_,?_,?_,?_,?_,?_,?_,?_,?_,?_,?_,?_,?_,?_,?_,?_⟩<;>intros
 ·rename_i a b env s N T;show(match a env s with|.nx e s1=>b e s1|r=>r).wp N T=_;cases a env s<;>rfl
 ·unfold sSet;rw[wp_bindS];rfl
 ·unfold sRet;rw[wp_bindS];rfl
 ·unfold sIf;rw[wp_bindS];congr 1;funext k s1;exact wp_iff2S _ _ _ _ _
 ·unfold sExpr;rw[wp_bindS];rfl
 ·unfold sAsg;rw[wp_bindS]
 ·rename_i i j a b env s N T
  unfold sPar pCons pNil
  cases a env s with
  | ok v s1=>
   simp only[bind_ok,wp_ok]
   cases b env s1<;>rfl
  | ex c s1=>rfl
  | bad=>rfl
 ·rfl
 ·unfold sFor;rw[wp_bindS]
 ·unfold sDput;rw[wp_bindS];congr 1;funext k s1;rw[wp_bindS];congr 1;funext k s1;rw[wp_bindS]
 ·rfl
 ·exact wp_ifS _ _ _ _
 ·rfl
 ·rfl
 ·rename_i o i r v w env s N
  show(match gSubL o i v env s with|.nx e s1=>r w e s1|q=>q).wp N _=_
  cases gSubL o i v env s<;>rfl
 ·rename_i n b v s Q
  show(match b (some v :: List.replicate (n - 1) none) s with|.rt v s1=>R.ok v s1|.nx _ s1=>.ok .non s1|.ex c s1=>.ex c s1|_=>.bad).wp Q=_
  cases b (some v :: List.replicate (n - 1) none) s<;>rfl
 ·rename_i n b v w s Q
  show(match b (some v :: some w :: List.replicate (n - 2) none) s with|.rt v s1=>R.ok v s1|.nx _ s1=>.ok .non s1|.ex c s1=>.ex c s1|_=>.bad).wp Q=_
  cases b (some v :: some w :: List.replicate (n - 2) none) s<;>rfl
 ·rename_i n b v w x s Q
  show(match b (some v :: some w :: some x :: List.replicate (n - 3) none) s with|.rt v s1=>R.ok v s1|.nx _ s1=>.ok .non s1|.ex c s1=>.ex c s1|_=>.bad).wp Q=_
  cases b (some v :: some w :: some x :: List.replicate (n - 3) none) s<;>rfl
def walkO (v:AV)(s:S):R (List AV × Gd):=match v with
 | .tup xs=>.ok (xs,[]) s
 | .sq xs=>.ok (xs,[]) s
 | .ref i=>need (lstO s i) λ xs=>.ok (xs,[(i,xs)]) s
 | _=>.bad
theorem WE :
  (∀ (v:AV) (env:En) (s:S) (Q:AV->S->Prop),(mc v env s).wp Q=Q v s)/\
  (∀ (op:AV->AV->S->R AV) (a b:Ev) (env:En) (s:S) (Q:AV->S->Prop),(mBin op a b env s).wp Q=(a env s).wp λ v s1=>(b env s1).wp λ w s2=>(op v w s2).wp Q)/\
  (∀ (op:AV->S->R AV) (a:Ev) (env:En) (s:S) (Q:AV->S->Prop),(mUn op a env s).wp Q=(a env s).wp λ v s1=>(op v s1).wp Q)/\
  (∀ (r:Evs) (env:En) (s:S) (Q:AV->S->Prop),(mTup r env s).wp Q=(r env s).wp λ vs s1=>vs.length<=sizeLine/\Q (.tup vs) s1)/\
  (∀ (r:Evs) (env:En) (s:S) (Q:List AV->S->Prop),(lLst r env s).wp Q=(r env s).wp λ vs s1=>vs.length<=sizeLine/\Q vs s1)/\
  (∀ (r:Evs) (env:En) (s:S) (Q:AV->S->Prop),(mNew r env s).wp Q=(r env s).wp λ vs s1=>Q (.ref s1.length) (s1++[.lst vs]))/\
  (∀ (n:Nat) (F:List AV->S->R AV) (r:Evs) (env:En) (s:S) (Q:AV->S->Prop),(mCall n F r env s).wp Q=(r env s).wp λ vs s1=>vs.length=n/\(F vs s1).wp Q)/\
  (∀ (a:Ev) (r:Evs) (env:En) (s:S) (Q:List AV->S->Prop),(pCons a r env s).wp Q=(a env s).wp λ v s1=>(r env s1).wp λ vs s2=>Q (v :: vs) s2)/\
  (∀ (env:En) (s:S) (Q:List AV->S->Prop),(pNil env s).wp Q=Q [] s)/\
  (∀ (m:Ev) (env:En) (s:S) (Q:Bool->S->Prop),(cB m env s).wp Q=(m env s).wp λ v s1=>match v with|.bl b=>Q b s1|_=>False)/\
  (∀ (m:Ev) (env:En) (s:S) (Q:Bool->S->Prop),(cT m env s).wp Q=(m env s).wp λ v s1=>match truth v s1 with|some b=>Q b s1|none=>False)/\
  (∀ (a:Eb) (env:En) (s:S) (Q:Bool->S->Prop),(cNot a env s).wp Q=(a env s).wp λ c s1=>Q (!c) s1)/\
  (∀ (a b:Eb) (env:En) (s:S) (Q:Bool->S->Prop),(cAnd a b env s).wp Q=(a env s).wp λ c s1=>if c=true then (b env s1).wp Q else Q false s1)/\
  (∀ (a b:Eb) (env:En) (s:S) (Q:Bool->S->Prop),(cOr a b env s).wp Q=(a env s).wp λ c s1=>if c=true then Q true s1 else (b env s1).wp Q)/\
  (∀ (env:En) (s:S) (Q:Bool->S->Prop),(cYes env s).wp Q=Q true s)/\
  (∀ (c:Eb) (a b:Ev) (env:En) (s:S) (Q:AV->S->Prop),(mIf c a b env s).wp Q=(c env s).wp λ k s1=>if k=true then (a env s1).wp Q else (b env s1).wp Q)/\
  (∀ (op:List AV->S->R AV) (r:Evs) (env:En) (s:S) (Q:AV->S->Prop),(mOp op r env s).wp Q=(r env s).wp λ vs s1=>(op vs s1).wp Q)/\
  (∀ {α:Type}(op:List AV->S->R α) (r:Evs) (env:En) (s:S) (Q:α->S->Prop),(gOp op r env s).wp Q=(r env s).wp λ vs s1=>(op vs s1).wp Q)/\
  (∀ (m:Ev) (env:En) (s:S) (Q:List AV->S->Prop),(lIts m env s).wp Q=(m env s).wp λ v s1=>(need (items v s1) λ xs=>.ok xs s1).wp Q)/\
  (∀ (r:Evs) (env:En) (s:S) (Q:List AV × Gd->S->Prop),(srcL r env s).wp Q=(r env s).wp λ xs s1=>Q (xs,[]) s1)/\
  (∀ (m:Ev) (env:En) (s:S) (Q:List AV × Gd->S->Prop),(srcV' m env s).wp Q=(m env s).wp λ v s1=>(walkO v s1).wp Q)/\
  (∀ (l:Lc) (src:Src) (tgt:Mt) (test:Eb) (elt:Ev) (env:En) (s:S) (Q:List AV->S->Prop),(lComp l src tgt test elt env s).wp Q=(src env s).wp λ p s1=>p.1.length<=sizeLine/\(compL tgt test elt p.2 p.1 (srcE l env) s1 []).wp Q)/\
  (∀ (n:String) (op:AV->List AV->S->R AV) (o:Ev) (r:Evs) (env:En) (s:S) (Q:AV->S->Prop),(mMet n op o r env s).wp Q=(o env s).wp λ v s1=>(isTy n v s1).isSome=true/\(r env s1).wp λ vs s2=>(op v vs s2).wp Q)/\
  (∀ {α:Type}(n:String) (op:AV->List AV->S->R α) (o:Ev) (r:Evs) (env:En) (s:S) (Q:α->S->Prop),(gMet n op o r env s).wp Q=(o env s).wp λ v s1=>(isTy n v s1).isSome=true/\(r env s1).wp λ vs s2=>(op v vs s2).wp Q)/\
  (∀ (n:String) (op:AV->List AV->S->R AV) (o:Ev) (env:En) (s:S) (Q:AV->S->Prop),(mMet0 n op o env s).wp Q=(o env s).wp λ v s1=>(isTy n v s1).isSome=true/\(op v [] s1).wp Q)/\
  (∀ (d y z:Ev) (env:En) (s:S) (Q:AV->S->Prop),(mGet2 d y z env s).wp Q=(d env s).wp λ a s1=>(isTy "dict" a s1).isSome=true/\(y env s1).wp λ b s2=>(z env s2).wp λ c s3=>(opGet2 a b c s3).wp Q)/\
  (∀ (env:En) (s:S) (Q:AV->S->Prop),(mD0 env s).wp Q=Q (.ref s.length) (s++[.dK []]))/\
  (∀ (m:Ev) (lo hi:Eo) (env:En) (s:S) (Q:AV->S->Prop),(mSl m lo hi env s).wp Q=(m env s).wp λ v s1=>(lo env s1).wp λ l s2=>(hi env s2).wp λ h s3=>(opSl v l h s3).wp Q)/\
  (∀ (env:En) (s:S) (Q:Option Int->S->Prop),(oN env s).wp Q=Q none s)/\
  (∀ (m:Ev) (env:En) (s:S) (Q:Option Int->S->Prop),(oS m env s).wp Q=(m env s).wp λ v s1=>match v with|.int i=>Q (some i) s1|_=>False)/\
  (∀ (a b:Ev) (env:En) (s:S) (Q:AV->S->Prop),(mAnd a b env s).wp Q=(a env s).wp λ v s1=>match v with|.bl true=>(b env s1).wp Q|.bl false=>Q (.bl false) s1|_=>False)/\
  (∀ (a b:Ev) (env:En) (s:S) (Q:AV->S->Prop),(mOr a b env s).wp Q=(a env s).wp λ v s1=>match v with|.bl true=>Q (.bl true) s1|.bl false=>(b env s1).wp Q|_=>False)/\
  (∀ (m:Ev) (env:En) (s:S) (Q:AV->S->Prop),(gcE m env s).wp Q=(m env s).wp λ v s1=>(s1.take s.length=s/\v.low s.length=true)/\Q v s)/\
  (∀ (m:Eb) (env:En) (s:S) (Q:Bool->S->Prop),(gcB m env s).wp Q=(m env s).wp λ v s1=>(s1.take s.length=s)/\Q v s)/\
  (∀ (m:Ev) (env:En) (s:S) (Q:AV->S->Prop),(gcM m env s).wp Q=(m env s).wp λ v s1=>((s1.take s.length).all (AO.low s.length)=true/\v.low s.length=true)/\Q v (s1.take s.length))/\
  (∀ (m:Ev) (env:En) (s:S) (Q:List AV->S->Prop),(lTake m env s).wp Q=(m env s).wp λ v s1=>match v with|.ref k=>(need (lstO s1 k) λ xs=>if s.length<=k/\(s1.take s.length).all (AO.low s.length)=true/\lowL s.length xs=true then .ok xs (s1.take s.length) else .bad).wp Q|_=>False):=by
 refine⟨?_,?_,?_,?_,?_,?_,?_,?_,?_,?_,?_,?_,?_,?_,?_,?_,?_,?_,?_,?_,?_,?_,?_,?_,?_,?_,?_,?_,?_,?_,?_,?_,?_,?_,?_,?_⟩<;>intros
 ·rfl
 ·unfold mBin;rw[wp_bind];congr 1;funext v s1;rw[wp_bind]
 ·unfold mUn;rw[wp_bind]
 ·unfold mTup;rw[wp_bind];congr 1;funext v s1;exact wp_if _ _ _
 ·unfold lLst;rw[wp_bind];congr 1;funext v s1;exact wp_if _ _ _
 ·unfold mNew;rw[wp_bind];rfl
 ·unfold mCall;rw[wp_bind];congr 1;funext v s1;exact wp_if _ _ _
 ·unfold pCons;rw[wp_bind];congr 1;funext v s1;rw[wp_bind];rfl
 ·rfl
 ·unfold cB;rw[wp_bind];congr 1;funext v s1;cases v<;>rfl
 ·unfold cT;rw[wp_bind];congr 1;funext v s1;cases truth v s1<;>rfl
 ·unfold cNot;rw[wp_bind];rfl
 ·unfold cAnd;rw[wp_bind];congr 1;funext v s1;exact wp_iff2 _ _ _ _
 ·unfold cOr;rw[wp_bind];congr 1;funext v s1;exact wp_iff2 _ _ _ _
 ·rfl
 ·unfold mIf;rw[wp_bind];congr 1;funext v s1;exact wp_iff2 _ _ _ _
 ·unfold mOp;rw[wp_bind]
 ·unfold gOp;rw[wp_bind]
 ·unfold lIts;rw[wp_bind]
 ·unfold srcL;rw[wp_bind];rfl
 ·unfold srcV';rw[wp_bind];rfl
 ·unfold lComp;rw[wp_bind];congr 1;funext v s1;exact wp_if _ _ _
 ·unfold mMet;rw[wp_bind];congr 1;funext v s1
  cases isTy _ v s1 with
  | none=>exact propext ⟨λ k=>k.elim,λ k=>nomatch k.1⟩
  | some u=>rw[wp_need,wp_bind];exact propext ⟨λ k=>⟨rfl,k⟩,λ k=>k.2⟩
 ·unfold gMet;rw[wp_bind];congr 1;funext v s1
  cases isTy _ v s1 with
  | none=>exact propext ⟨λ k=>k.elim,λ k=>nomatch k.1⟩
  | some u=>rw[wp_need,wp_bind];exact propext ⟨λ k=>⟨rfl,k⟩,λ k=>k.2⟩
 ·unfold mMet0;rw[wp_bind];congr 1;funext v s1
  cases isTy _ v s1 with
  | none=>exact propext ⟨λ k=>k.elim,λ k=>nomatch k.1⟩
  | some u=>rw[wp_need];exact propext ⟨λ k=>⟨rfl,k⟩,λ k=>k.2⟩
 ·unfold mGet2;rw[wp_bind];congr 1;funext v s1
  cases isTy _ v s1 with
  | none=>exact propext ⟨λ k=>k.elim,λ k=>nomatch k.1⟩
  | some u=>
   rw[wp_need,wp_bind]
   simp only[wp_bind]
   exact propext ⟨λ k=>⟨rfl,k⟩,λ k=>k.2⟩
 ·rfl
 ·unfold mSl;rw[wp_bind];congr 1;funext v s1;rw[wp_bind];congr 1;funext v s1;rw[wp_bind]
 ·rfl
 ·unfold oS;rw[wp_bind];congr 1;funext v s1;cases v<;>rfl
 ·unfold mAnd;rw[wp_bind];congr 1;funext v s1
  cases v with
  | bl b=>cases b<;>rfl
  | _=>rfl
 ·unfold mOr;rw[wp_bind];congr 1;funext v s1
  cases v with
  | bl b=>cases b<;>rfl
  | _=>rfl
 ·unfold gcE;rw[wp_bind];congr 1;funext v s1;exact wp_if _ _ _
 ·unfold gcB;rw[wp_bind];congr 1;funext v s1;exact wp_if _ _ _
 ·unfold gcM;rw[wp_bind];congr 1;funext v s1;exact wp_if _ _ _
 ·unfold lTake;rw[wp_bind];congr 1;funext v s1;cases v<;>rfl
theorem for_wp {tgt:Mt}{b:Ms}{gs:Gd}{N:En->S->Prop}{T:AV->S->Prop}(I:List AV->En->S->Prop)(hg:∀ l env s,I l env s->gOk gs s)(h0:∀ env s,I [] env s->N env s)
  (h1:∀ v r env s,I (v :: r) env s->(tgt v env s).wp (λ e s1=>(b e s1).wp (I r) T) (λ _ _=>False)):∀ l env s,I l env s->(forL tgt b gs l env s).wp N T
 | [],env,s,h=>by unfold forL;rw[if_pos (hg _ _ _ h)];exact h0 env s h
 | v :: r,env,s,h=>by
  unfold forL
  rw[if_pos (hg _ _ _ h)]
  have k:=h1 v r env s h
  revert k
  cases tgt v env s with
  | nx e1 s1=>
   intro k
   have k:(b e1 s1).wp (I r) T:=k
   dsimp only
   revert k
   cases b e1 s1 with
   | nx e2 s2=>intro k;exact for_wp I hg h0 h1 r e2 s2 k
   | rt e2 s2=>intro k;exact k
   | _=>intro k;exact k.elim
  | _=>intro k;exact k.elim
theorem comp_wp {tgt:Mt}{test:Eb}{elt:Ev}{gs:Gd}{Q:List AV->S->Prop}(I:List AV->List AV->En->S->Prop)(hg:∀ l acc env s,I l acc env s->gOk gs s)(h0:∀ acc env s,I [] acc env s->Q acc s)
  (h1:∀ v r acc env s,I (v :: r) acc env s->(tgt v env s).wp (λ e s1=>(test e s1).wp λ c s2=>if c=true then (elt e s2).wp λ x s3=>I r (acc++[x]) e s3 else I r acc e s2) (λ _ _=>False)):∀ l acc env s,I l acc env s->(compL tgt test elt gs l env s acc).wp Q
 | [],acc,env,s,h=>by unfold compL;rw[if_pos (hg _ _ _ _ h)];exact h0 acc env s h
 | v :: r,acc,env,s,h=>by
  unfold compL
  rw[if_pos (hg _ _ _ _ h)]
  have k:=h1 v r acc env s h
  revert k
  cases tgt v env s with
  | nx e1 s1=>
   intro k
   dsimp only
   rw[wp_bind,wp_calm]
   refine R.wp.mono k λ c s2 k=>?_
   rw[wp_iff2,wp_bind,wp_calm]
   split
   ·rename_i hc;rw[if_pos hc]at k
    exact R.wp.mono k λ x s3 k=>comp_wp I hg h0 h1 r (acc++[x]) e1 s3 k
   ·rename_i hc;rw[if_neg hc]at k
    exact comp_wp I hg h0 h1 r acc e1 s2 k
  | _=>intro k;exact k.elim
end Mm
namespace Mm
open PySem L2
theorem wpe {α:Type}{m:R α}{v:α}{s:S}(h:m=.ok v s)(Q:α->S->Prop):m.wp Q=Q v s:=by rw[h];rfl
theorem wpeS {m:RS}{e:En}{s:S}(h:m=.nx e s)(N:En->S->Prop)(T:AV->S->Prop):m.wp N T=N e s:=by rw[h];rfl
theorem wp_whl (f:En->S->Nat)(c:Eb)(b:Ms)(env:En)(s:S)(N:En->S->Prop)(T:AV->S->Prop):(sWhl f c b env s).wp N T=(whl c b (f env s) env s).wp N T:=rfl
theorem seq_step {a b:Ms}{env:En}{s:S}{N:En->S->Prop}{T:AV->S->Prop}(h:∀ K:En->S->Prop,(∀ e s,K e s=(b e s).wp N T)->(a env s).wp K T):(sSeq a b env s).wp N T:=by
 rw[WS.1]
 exact h _ λ _ _=>rfl
theorem WV :
  (∀ (v:AV) (l:En) (s:S) (Q:AV->S->Prop),(mv 0 (some v :: l) s).wp Q=Q v s)/\
  (∀ (n:Nat) (x:Option AV) (l:En) (s:S) (Q:AV->S->Prop),(mv (n+1) (x :: l) s).wp Q=(mv n l s).wp Q)/\
  (∀ (i j:Int) (s:S) (Q:AV->S->Prop),(opAdd (.int i) (.int j) s).wp Q=Q (.int (i+j)) s)/\
  (∀ (i j:Int) (s:S) (Q:AV->S->Prop),(opSub (.int i) (.int j) s).wp Q=Q (.int (i - j)) s)/\
  (∀ (i j:Int) (s:S) (Q:AV->S->Prop),(opMul (.int i) (.int j) s).wp Q=((Big i/\Big j)/\Q (.int (i * j)) s))/\
  (∀ (i j:Int) (s:S) (Q:AV->S->Prop),(opFdiv (.int i) (.int j) s).wp Q=((j≠0/\Mid j)/\Q (.int (i.fdiv j)) s))/\
  (∀ (i j:Int) (s:S) (Q:AV->S->Prop),(opMod (.int i) (.int j) s).wp Q=(j≠0/\Q (.int (i.fmod j)) s))/\
  (∀ (i:Int) (s:S) (Q:AV->S->Prop),(opNeg (.int i) s).wp Q=Q (.int (-i)) s)/\
  (∀ (b:Bool) (s:S) (Q:AV->S->Prop),(opNot (.bl b) s).wp Q=Q (.bl (!b)) s)/\
  (∀ (i j:Int) (s:S) (Q:AV->S->Prop),(opLt (.int i) (.int j) s).wp Q=Q (.bl (decide (i < j))) s)/\
  (∀ (i j:Int) (s:S) (Q:AV->S->Prop),(opLe (.int i) (.int j) s).wp Q=Q (.bl (decide (i<=j))) s)/\
  (∀ (i j:Int) (s:S) (Q:AV->S->Prop),(opGt (.int i) (.int j) s).wp Q=Q (.bl (decide (j < i))) s)/\
  (∀ (i j:Int) (s:S) (Q:AV->S->Prop),(opGe (.int i) (.int j) s).wp Q=Q (.bl (decide (j<=i))) s)/\
  (∀ (i j:Int) (s:S) (Q:AV->S->Prop),(opEq (.int i) (.int j) s).wp Q=Q (.bl (decide (i=j))) s)/\
  (∀ (i j:Int) (s:S) (Q:AV->S->Prop),(opNe (.int i) (.int j) s).wp Q=Q (.bl (!decide (i=j))) s)/\
  (∀ (i j:Str) (s:S) (Q:AV->S->Prop),(opEq (.str i) (.str j) s).wp Q=Q (.bl (decide (i=j))) s)/\
  (∀ (i j:Str) (s:S) (Q:AV->S->Prop),(opNe (.str i) (.str j) s).wp Q=Q (.bl (!decide (i=j))) s)/\
  (∀ (v:AV) (s:S) (Q:AV->S->Prop),(opIsN v .non s).wp Q=Q (.bl (isNon v)) s)/\
  (∀ (v:AV) (s:S) (Q:AV->S->Prop),(opIsntN v .non s).wp Q=Q (.bl (!isNon v)) s)/\
  (∀ (i:Int) (s:S) (Q:AV->S->Prop),(opAbs [.int i] s).wp Q=Q (.int (if i < 0 then -i else i)) s)/\
  (∀ (i j:Int) (s:S) (Q:AV->S->Prop),(opMin [.int i,.int j] s).wp Q=Q (.int (if j < i then j else i)) s)/\
  (∀ (i:Int) (s:S) (Q:AV->S->Prop),(opInt [.int i] s).wp Q=Q (.int i) s)/\
  (∀ (i:Bool) (s:S) (Q:AV->S->Prop),(opInt [.bl i] s).wp Q=Q (.int (if i then 1 else 0)) s)/\
  (∀ (xs:List AV) (i:Int) (s:S) (Q:AV->S->Prop),(opIx (.tup xs) (.int i) s).wp Q=(need (atI xs i) λ v=>.ok v s).wp Q)/\
  (∀ (k:Nat) (i:Int) (s:S) (Q:AV->S->Prop),(opIx (.ref k) (.int i) s).wp Q=(need (lstO s k) λ xs=>need (atI xs i) λ v=>.ok v s).wp Q)/\
  (∀ {α:Type}(a:α) (s:S) (Q:α->S->Prop),(R.ok a s).wp Q=Q a s)/\
  (∀ (e:En) (s:S) (N:En->S->Prop) (T:AV->S->Prop),(RS.nx e s).wp N T=N e s)/\
  (∀ {α γ:Type}(x:γ) (f:γ->R α) (Q:α->S->Prop),(need (some x) f).wp Q=(f x).wp Q)/\
  (∀ (xs:List AV) (s:S) (Q:List AV × Gd->S->Prop),(walkO (.tup xs) s).wp Q=Q (xs,[]) s)/\
  (∀ (i j:Int) (s:S) (Q:AV->S->Prop),(opPow (.int i) (.int j) s).wp Q=(CPow i j/\Q (.int (i ^ j.toNat)) s))/\
  (∀ (i j:Int) (s:S) (Q:AV->S->Prop),(opDivmod [.int i,.int j] s).wp Q=((0 < j/\Mid j)/\Q (.tup [.int (i / j),.int (i % j)]) s)):=by
 refine⟨?_,?_,?_,?_,?_,?_,?_,?_,?_,?_,?_,?_,?_,?_,?_,?_,?_,?_,?_,?_,?_,?_,?_,?_,?_,?_,?_,?_,?_,?_,?_⟩<;>intros<;>first|rfl|exact wp_if _ _ _
theorem Lq :
  (∀ (x y:Option AV) (l:En),(x :: l).set 0 y=y :: l)/\
  (∀ (x y:Option AV) (l:En) (n:Nat),(x :: l).set (n+1) y=x :: l.set n y)/\
  (∀ (n:Nat) (x:Option AV),List.replicate (n+1) x=x :: List.replicate n x)/\
  (∀ (x:Option AV),List.replicate 0 x=[])/\
  (∀ (a:AV) (l:List AV),atI (a :: l) 0=some a)/\(∀ (a b:AV) (l:List AV),atI (a :: b :: l) 1=some b)/\(∀ (a b c:AV) (l:List AV),atI (a :: b :: c :: l) 2=some c)/\
  (∀ (l:Lc) (env:En),srcE l env=l.map λ p=>p.2.bind λ j=>(env[j]?).join)/\
  (∀ (x:Option AV) (l:En),(x :: l)[0]? = some x)/\
  (∀ (x:Option AV) (l:En) (n:Nat),(x :: l)[n+1]? = l[n]?)/\
  (∀ {α β:Type}(f:α->β),[].map f=[])/\
  (∀ {α β:Type}(f:α->β) (x:α) (l:List α),(x :: l).map f=f x :: l.map f)/\
  (∀ {α β:Type}(f:α->Option β),(none:Option α).bind f=none)/\
  (∀ {α β:Type}(f:α->Option β) (x:α),(some x).bind f=f x)/\
  (∀ {α:Type}(x:Option α),(some x).join=x):=by
 refine⟨?_,?_,?_,?_,?_,?_,?_,?_,?_,?_,?_,?_,?_,?_,?_⟩<;>intros<;>first|rfl|skip
 ·exact atI_nat (j:=0) rfl
 ·exact atI_nat (j:=1) rfl
 ·exact atI_nat (j:=2) rfl
theorem UU:(∀ p:Prop,(True ∧ p)=p) ∧ (∀ p:Prop,(p ∧ True)=p) ∧ (∀ {α:Type}{_:Decidable True}(a b:α),(if True then a else b)=a) ∧ (∀ {α:Type}{_:Decidable False}(a b:α),(if False then a else b)=b) ∧ ((false=true)=False) ∧ (∀ (p:Prop){_:Decidable p},(decide p=true)=p) ∧ (∀ b:Bool,((!b)=true)=(b=false)) ∧ (∀ (p:Prop){_:Decidable p},(decide p=false)=¬p):=by
 refine⟨λ p=>true_and p,λ p=>and_true p,λ a b=>if_true a b,λ a b=>if_false a b,Bool.false_eq_true,λ p _=>decide_eq_true_eq,λ b=>Bool.not_eq_true' b,λ p _=>propext decide_eq_false_iff_not⟩

end Mm
local macro_rules | `(tactic| walk_at "w") => `(tactic| simp only [↓Mm.WS, ↓Mm.WE, ↓Mm.WV, Mm.Lq, Mm.len_sz, Mm.UU, Nat.reduceSub, ↓reduceIte])
namespace Ro
open PySem L2 Mm
abbrev TK (K:PySem.W.Frag):Tx:=⟨K,λ _=>0⟩
structure Df (T:Tx)(mg:Str->Option Value)(x:Str)(st:Stmt):Prop where
 ex:∃ f fd,Fun T.K x x st f fd/\mg x=some (.ref f)
theorem df_mk {K:PySem.W.Frag}{cl:Nat->Addr}{h:Heap}{mg:Str->Option Value}{x:Str}{st:Stmt}{f:Addr}{oc:Value}{od an:Option Addr}{osl:Array (Option Value)}{kV doc pm cdv ct:Value}(X:K.In h)(G:h.Ns mainGlobals mg)(a:PySem.W.nsIn K mainGlobals x=some (some (.ref f)))
  (l:K.lookup f=some ⟨oc,od,.func (PySem.W.fnOf x x (defArgs st) (defBody st) (defScope st) .none kV doc pm an cdv ct),osl⟩) (c:PySem.W.codeIn K cdv x=true) (k:PySem.W.keepIn K (.ref f)=true):Df ⟨K,cl⟩ mg x st:=
 ⟨⟨f,_,fun_mk l c k,PySem.W.mg_of X G a⟩⟩
theorem kst_mk1 {K:PySem.W.Frag}{cl:Nat->Addr}{h:Heap}{mg:Str->Option Value}{x:Str}{u:Value}{v:V}{a:AV}(X:K.In h)(G:h.Ns mainGlobals mg)(e:PySem.W.nsIn K mainGlobals x=some (some u)) (r:RelV v u)(hv:∀ ρ H,VR ⟨K,cl⟩ ρ H a v):Kst ⟨K,cl⟩ mg x a:=⟨v,u,PySem.W.mg_of X G e,r,hv⟩
section
variable {P:Program}{w:World}{T:Tx}{mg:Str->Option Value}{base:Heap}
theorem fk_of {x:Str}{st:Stmt}{k n:Nat}{body:Ms}(N:List Str)(D:Df T mg x st)(S:FnScope N (N.take n) (defScope st))
  (hb:∀ (kV doc pm:Value) (an:Option Addr) (cdv ct:Value) (us:List Value),us.length=(N.take n).length->bindArgs (PySem.W.fnOf x x (defArgs st) (defBody st) (defScope st) .none kV doc pm an cdv ct) ⟨us,[]⟩=pure ((N.take n).zip us)) (hn:(N.take n).length=n)
  (h:∀ (f:Addr) (cdv:Value) (A:Around) (outer:List Env) (s:Shared) (H:Hp) (E:XK),Room k (A.deeper (PyProof.Rows.envOfC x (defScope st) s.heap.objs.size f cdv))->N.Nodup->PSs (cxOf CX0 P w T.K mg base N x (defScope st) f cdv A outer s H E).nox (defBody st) (tS T XE0 body)) :
  Fk P w T mg base x n (k+1) (fnR N.length body):=by
 obtain⟨f,fd,F,m⟩:=D.ex
 have:=fn_ok F S λ cdv A outer s H E hr=>h f cdv A outer s H E hr S.nd
 rw[hn]at this
 exact⟨f,fd,_,this,F.binds hb,m,F.kp⟩
theorem sp_law {K:PySem.W.Frag}{H:Hp}{a:Addr}{ns:List Int}{E:XK}{fl:List AV->S->R AV}(hl:(fl [.sq (ns.map AV.int)] []).wp λ v _=>v=.bl true) (hO:Only H)(hS:SqL K H a (ns.map V.int)):spOf (TK K) 1 fl [.ref a] H (λ v _=>v=.bl true) E:=by
 have hF:SqF K H a (ns.map V.int):=by
  rcases hS with h|h
  ·rcases h with h|h
   ·rcases hO a with z|⟨o,xs,z⟩
    ·rw[z]at h;cases h
    ·rw[z]at h;cases h
   ·exact .inl h
  ·exact .inr h
 refine⟨rfl,[],[],[.sq (ns.map AV.int)],⟨List.nodup_nil,rfl,(λ i o e=>nomatch e)⟩,?_,?_⟩
 ·unfold VRs
  refine⟨_,_,rfl,?_,by unfold VRs;rfl⟩
  unfold VR
  exact⟨a,_,rfl,hF,VRs.map (λ i=>vr_int) ns⟩
 ·obtain⟨v,s',e,rfl⟩:=hl.get
  rw[e]
  intro ρ' H' x _ _ hx
  have hx:VR (TK K) ρ' H' (.bl true) x:=hx
  unfold VR at hx
  exact hx
theorem fin_of {l:PySem.W.OpenLaw}{w:World}{K:PySem.W.Frag}{h:Heap}{mg:Str->Option Value}{fa:Addr}{st:Stmt}{k:Nat}{sp:Sp}(hfa:mg "law"=some (.ref fa)) (D:Df (TK K) mg "law" st)
  (hb:∀ (s:Shared) (v kV doc pm:Value) (an:Option Addr) (cdv ct:Value),BindsTo s (PySem.W.fnOf "law" "law" (defArgs st) (defBody st) (defScope st) .none kV doc pm an cdv ct) ⟨[v],[]⟩ [("_law_script",v)])
  (F:∀ (base:Heap) (f:Addr) (fd:FuncData),Fun K "law" "law" st f fd->FnOk l.prog w K mg base CX0 k f fd ["_law_script"] sp) :
  ∃ fd:FuncData,(∀ (s:Shared) (v:Value),BindsTo s fd ⟨[v],[]⟩ [("_law_script",v)])/\∀ base:Heap,K.In base->base.Ns mainGlobals mg->FnOk l.prog w K mg base CX0 k fa fd ["_law_script"] sp:=by
 obtain⟨f,fd,G,m⟩:=D.ex
 cases m.symm.trans hfa
 refine⟨fd,?_,λ base _ _=>F base _ _ G⟩
 obtain⟨oc,od,kV,doc,pm,an,cdv,ct,osl,rfl,lk,hcd⟩:=G.ex
 exact λ s v=>hb s v kV doc pm an cdv ct
end
theorem walk {l:PySem.W.OpenLaw}{q:Program}{loose:List Str}{XP:(Str->Option Value)->Heap->Prop}{YP:World->Heap->Prop}{d:DefRec}{K:Params->PySem.W.Frag}(fl:List AV->S->R AV)(k:Nat)(hk:Room k callerA)(hl:∀ ns:List Int,(fl [.sq (ns.map AV.int)] []).wp λ v _=>v=.bl true) (hn:l.most=some 63)(hdf:d.params.defaults=[])
  (hY:∀ (w:World) (h:Heap),YP w h->(K w.params).In h)
  (F:∀ (w:World) (mg:Str->Option Value) (fa:Addr) (h:Heap),(K w.params).In h->h.Ns mainGlobals mg->mg d.name=some (.ref fa)->
   ∃ fd:FuncData,(∀ (s:Shared) (u:Value),BindsTo s fd ⟨[u],[]⟩ [("_law_script",u)])/\∀ base:Heap,(K w.params).In base->base.Ns mainGlobals mg->FnOk l.prog w (K w.params) mg base CX0 k fa fd ["_law_script"] (spOf (TK (K w.params)) 1 fl)) :
  PySem.W.WalkO q loose XP YP l.row.toRowW d [] (λ f vs=>PySem.call f vs):=
 L2.walk_of (n:=63) (x:="_law_script") (CX:=λ _=>CX0) (sp:=λ w=>spOf (TK (K w.params)) 1 fl) hn (by decide) hdf hk hY F (λ w H a ns _ hO hS=>sp_law (hl ns) hO hS) λ _ _ _ _ _ z=>z
end Ro
namespace L2
open PySem PySem.Spec PyProof.Rows
theorem op_inS {X:Cx}:OpR X (compareOp .In) (λ y x H Q=>∃ a b,y=.str a/\x=.str b/\Q (.bl (Txt.contains b a)) H):=by
 intro pins s σ H x y v u Q I rx ry h
 obtain⟨i,j,rfl,rfl,q⟩:=h
 obtain⟨t,rfl⟩:=rx
 obtain⟨t',rfl⟩:=ry
 exact PySem.P.in_str ⟨.bl _,H,I,rfl,q⟩
def Its (x:Str):It:=⟨λ i _=>i < x.length,λ i H v H'=>H'=H/\∃ c,x.cps[i]? = some c/\v=.str ⟨#[c]⟩,λ i _=>x.length<=i⟩
theorem turn_str {P:Program}{w:World}{K:PySem.W.Frag}{tg:Expr}(x:Str)(t:Tok)(it:Addr):Turn P w K tg (Its x) [it] it (λ i h=>h.IsStrIter it "str_ascii_iterator" x t i) where
 mem:=by simp
 obj:=λ i h st b hb=>by
  have e:b=it:=by simpa using hb
  subst e
  obtain⟨o,e,c,d⟩:=st
  exact⟨o,e,λ v z=>by rw[d]at z;cases z⟩
 keep:=λ i h h' st k=>by
  obtain⟨o,e,c,d⟩:=st
  exact⟨o,k it (by simp) o e,c,d⟩
 item:=by
  intro X hP hw hK hc i pins s σ H E I hf st hg
  subst hP hw hK
  have hi:x.cps[i]? = some (x.cps[i]'hg):=Array.getElem?_eq_getElem hg
  obtain⟨f0,f1,f2,f3,f4,f5⟩:=hf it (by simp)
  refine wpAny_pyNext_ascii_item st hi λ h' st' sb=>?_
  have I1:Inv X pins σ H { s with heap:=h',toks:=s.toks+1 }:=I.turned (t':=s.toks+1) (λ b o hb e=>(sb.2 b hb).trans e) f0 f1 f3 f4 f5
  obtain⟨o,e,c,d⟩:=id st'
  exact⟨_,rfl,go_of (s:={ s with heap:=h',toks:=s.toks+1 }) e c d (by decide) ⟨.str _,H,I1,⟨_,rfl⟩,⟨rfl,_,hi,rfl⟩,st',λ b hb=>(hf b hb).1⟩⟩
 done:=by
  intro X hP hw hK hc i pins s σ H E I hf st hg
  subst hP hw hK
  obtain⟨f0,f1,f2,f3,f4,f5⟩:=hf it (by simp)
  have hg:x.cps.size<=i:=hg
  exact wpAny_pyNext_ascii_end (I.ok.hd hc) st (Array.getElem?_eq_none hg) λ h' eb=>⟨rfl,I.turned (t':=s.toks) (λ b o hb e=>eb b o hb e) f0 f1 f3 f4 f5⟩
 self:=λ _ _ _ _ _ st h=>wpAny_pyIter_striter_ascii st h
theorem pi_str {X:Cx}{tg e:Expr}{te:TE}(h:PE X e te):PI X tg e (λ σ H R=>te σ H λ x H1=>∃ t,x=.str t/\t.cps.all (· < 128)=true/\R (Its t) H1):=by
 intro pins s σ H R I hq
 refine thn (h pins s σ H _ I hq) λ u s1 ⟨x,H1,I1,rx,t,ex,ha,q⟩=>?_
 subst ex
 obtain⟨tk,rfl⟩:=rx
 refine wpAny_pyIter_ascii ha ?_
 refine⟨s1.heap.objs.size,[s1.heap.objs.size],_,Its t,H1,rfl,I1.kept (t':=s1.toks) λ b o e=>Heap.get?_push_of_some _ e,turn_str t tk _,⟨_,Heap.get?_push_size _ rfl,rfl,rfl⟩,λ b hb=>?_,q⟩
 have e:b=s1.heap.objs.size:=by simpa using hb
 subst e
 exact I1.fpOk (Nat.le_refl _) (I1.hok.fresh (Nat.le_refl _))
end L2
namespace Mm
open PySem L2
section
variable {T:Tx}{XE:XEt}{X:Cx}{pos:Pos}
structure Dg (i:Int):Prop where
 f:i.natAbs < 10 ^ 4300
noncomputable instance {i:Int}:Decidable (Dg i):=Classical.propDecidable _
abbrev Ej:=Str->En->S->R Str
def jCons (m:Ev)(r:Ej):Ej:=λ acc env s=>(m env s).bind λ v s1=>match v with
 | .str y=>if (acc++y).length<=sizeLine then r (acc++y) env s1 else .bad
 | _=>.bad
def opInS:AV->AV->S->R AV
 | .str a,.str b,s=>.ok (.bl (Txt.contains b a)) s
 | _,_,_=>.bad
theorem oInS:OpR X (compareOp .In) (r2M T XE opInS):=by
 intro pins s σ H x y v u Q I rx ry ⟨ρ,a,b,st,sr,va,vb,ho⟩
 cases a<;>cases b<;>try exact ho.elim
 exact op_inS pins s σ H x y v u Q I rx ry ⟨_,_,va.str_inv,vb.str_inv,ho.hereV sr vr_bl⟩
def sgn (c:Nat):AV:=.str ⟨#[c]⟩
def srcS (m:Ev):Src:=λ env s=>(m env s).bind λ v s1=>match v with
 | .str t=>if t.cps.all (· < 128)=true then .ok (t.cps.toList.map sgn,[]) s1 else .bad
 | _=>.bad
theorem mi_s {tg e:Expr}{m:Ev}(h:PE X e (tE T XE m)):PI X tg e (tW T XE (srcS m)):=
 PI.imp (pi_str h) λ σ H R ⟨ρ,env,s,hs,he,ho⟩=>step hs he ho λ v s1 ρ1 H1 x _ u1 sr1 er1 vr1 ho1=>by
  have vr1:VR T ρ1 H1 v x:=vr1
  cases v<;>try exact ho1.elim
  rename_i t _ _
  obtain⟨hl,ho1⟩:=ho1.ifInv
  refine⟨t,vr1.str_inv,hl,ho1 ρ1 H1 _ .refl sr1 ⟨λ ρ' s' H' u' sr' _=>⟨λ j v e=>?_,by show t.length<=_;rw[List.length_map];exact Nat.le_refl _⟩⟩⟩
  rw[List.getElem?_map]at e
  cases ec:t.cps.toList[j]? with
  | none=>rw[ec]at e;cases e
  | some c=>
   rw[ec]at e
   cases e
   have hj:j < t.cps.size:=by
    have:=(List.getElem?_eq_some_iff.mp ec).1
    simpa using this
   refine⟨hj,λ y H'' ⟨e1,c',ec',ey⟩=>?_⟩
   subst e1 ey
   have:c'=c:=by
    rw[Array.getElem?_toList]at ec
    rw[ec]at ec'
    exact(Option.some.inj ec').symm
   subst this
   exact⟨.refl,sr',vr_str⟩
end
end Mm
namespace L2
open PySem PySem.Spec PySem.W PyProof.Rows
section
variable {M:Model}{A:Around}{E:Value->Shared->Prop}{s:Shared}
end
end L2
namespace L2
open PySem PySem.Spec PySem.W PyProof.Rows
section
variable {M:Model}{A:Around}{E:Value->Shared->Prop}{K:PySem.W.Frag}{C D:Addr}{nm nm2:Str}{bm bm2:List Value}{ini ini2:Option Value}
end
section
variable {X:Cx}{pins:List (Addr × Obj)}{σ:St}{H:Hp}{s:Shared}
end
end L2
namespace Mm
open PySem L2
section
variable {T:Tx}{XE:XEt}{X:Cx}{pos:Pos}
end
end Mm
namespace L2
open PySem PySem.Spec PySem.W PyProof.Rows
section
variable {X:Cx}{e:Expr}{es:List Expr}{v:V}{vs:List V}
end
end L2
namespace Mm
open PySem L2
section
variable {T:Tx}{XE:XEt}{X:Cx}{pos:Pos}
end
end Mm
namespace Mm
open PySem L2 PySem.W
section
variable {T:Tx}{XE:XEt}{X:Cx}{pos:Pos}{mg:Str->Option Value}
end
end Mm
namespace Ro
open PySem L2 Mm
section
variable {P:Program}{w:World}{T:Tx}{mg:Str->Option Value}{base:Heap}
end
end Ro
namespace Mm
open PySem L2
section
variable {T:Tx}{XE:XEt}{X:Cx}{pos:Pos}
end
end Mm
namespace Ro
open PySem L2 Mm
section
variable {P:Program}{w:World}{T:Tx}{mg:Str->Option Value}{base:Heap}
end
end Ro
namespace Mm
open PySem L2
section
variable {T:Tx}{XE:XEt}{X:Cx}{pos:Pos}
def txts:List AV->Option (List Str)
 | []=>some []
 | .str x :: r=>(txts r).map (x :: ·)
 | _=>none
theorem txts_inv:∀ {l:List AV}{ss:List Str},txts l=some ss->l=ss.map AV.str
 | [],_,h=>by cases h;rfl
 | .str x :: r,ss,h=>by
  have h:(txts r).map (x :: ·)=some ss:=h
  cases e:txts r with
  | none=>rw[e]at h;cases h
  | some q=>rw[e]at h;cases h;rw[List.map_cons,<-txts_inv e]
 | .non :: _,_,h=>by cases h
 | .bl _ :: _,_,h=>by cases h
 | .int _ :: _,_,h=>by cases h
 | .tup _ :: _,_,h=>by cases h
 | .ref _ :: _,_,h=>by cases h
 | .sq _ :: _,_,h=>by cases h
end
end Mm
namespace L2
open PySem PySem.Spec PySem.W PyProof.Rows
theorem op_le_str {X:Cx}:OpR X (compareOp .LtE) (λ x y H Q=>∃ i j,x=.str i/\y=.str j/\Q (.bl (!decide (j.cps.toList < i.cps.toList))) H):=by
 intro pins s σ H x y v u Q I rx ry h
 obtain⟨i,j,rfl,rfl,q⟩:=h
 obtain⟨t,rfl⟩:=rx
 obtain⟨t',rfl⟩:=ry
 exact PySem.P.le_str (fin_bl I q rfl)
def rSlS:V->Option Int->Option Int->Hp->VK->Prop:=λ x lo hi H Q=>∃ z,x=.str z/\z.length<=sizeLine/\Q (.str (Txt.slice z lo hi)) H
theorem sl_str {X:Cx}:SlR X rSlS:=by
 intro pins s σ H x v vl vu lo hi sl Q I rx hs pl pu h
 obtain⟨z,rfl,hz,q⟩:=h
 obtain⟨t,rfl⟩:=rx
 refine⟨"str",_,PySem.F.slot_str_getitem.lookup,typeIs_str _ _ _,?_⟩
 have fin:∀ (t':Tok) (k:Nat),EP X pins σ Q (.str (Txt.slice z lo hi) t') { s with toks:=k }:=λ t' k=>⟨.str _,H,I.tok _,⟨_,rfl⟩,q⟩
 cases pl<;>cases pu
 ·exact wpAny_getItem_str_slice (l:=none) (u:=none) (st:=none) hs rfl (post_val_or_str ⟨Nat.le_trans (Txt.slice_le z _ _) hz,fin⟩)
 ·exact wpAny_getItem_str_slice (l:=none) (u:=some (_,_)) (st:=none) hs rfl (post_val_or_str ⟨Nat.le_trans (Txt.slice_le z _ _) hz,fin⟩)
 ·exact wpAny_getItem_str_slice (l:=some (_,_)) (u:=none) (st:=none) hs rfl (post_val_or_str ⟨Nat.le_trans (Txt.slice_le z _ _) hz,fin⟩)
 ·exact wpAny_getItem_str_slice (l:=some (_,_)) (u:=some (_,_)) (st:=none) hs rfl (post_val_or_str ⟨Nat.le_trans (Txt.slice_le z _ _) hz,fin⟩)
end L2
namespace Mm
open PySem L2 Sx
section
variable {T:Tx}{XE:XEt}{X:Cx}{pos:Pos}
def opLeS:AV->AV->S->R AV
 | .str i,.str j,s=>.ok (.bl (!decide (j.cps.toList < i.cps.toList))) s
 | _,_,_=>.bad
theorem oLeS:OpR X (compareOp .LtE) (r2M T XE opLeS):=by
 intro pins s σ H x y v u Q I rx ry ⟨ρ,a,b,st,sr,va,vb,ho⟩
 cases a<;>cases b<;>try exact ho.elim
 exact op_le_str pins s σ H x y v u Q I rx ry ⟨_,_,va.str_inv,vb.str_inv,ho.hereV sr vr_bl⟩
theorem swaps_list {v:List Expr}{p:Pos}{x:Str}{q:Pos}{n:Nat}{env:Env}:swapsWith (.List v p) (some (.Name x q)) n env=pure false:=rfl
theorem ms_setL {i:Nat}{x:Str}{v:List Expr}{p pos':Pos}{l:Evs}(hN:X.N.Nodup)(he:PA X v (tP T XE l)) (hi:X.N[i]? = some x)(hx:Loc X.env.scope x)(hf:X.fn x=true∨X.env.scope.names.lookup x=some .local) :
  PS X (.Assign [.Name x pos'] (.List v p) pos) (tS T XE (sSet i (mNew (lLst l)))):=ms_set hN (me_new (ml_lst he)) hi hx swaps_list hf
def opSlS (v:AV)(lo hi:Option Int)(s:S):R AV:=match v with
 | .str z=>if z.length<=sizeLine then .ok (.str (Txt.slice z lo hi)) s else .bad
 | _=>.bad
def mSlS (m:Ev)(lo hi:Eo):Ev:=λ env s=>(m env s).bind λ v s1=>(lo env s1).bind λ l s2=>(hi env s2).bind λ h s3=>opSlS v l h s3
theorem me_slS {e:Expr}{lo hi:Option Expr}{p2:Pos}{m:Ev}{ml mh:Eo}(he:PE X e (tE T XE m)) (hl:PO X lo (tO T XE ml)) (hh:PO X hi (tO T XE mh)):PE X (.Subscript e (.Slice lo hi none p2) pos) (tE T XE (mSlS m ml mh)):=
 PE.imp (pe_slice sl_str he hl hh) λ σ H Q ⟨ρ,env,s,hs,he,ho⟩=>
  step hs he ho λ v s1 ρ1 H1 x _ u1 sr1 er1 vr1 ho1=>step sr1 er1 ho1 λ l s2 ρ2 H2 l' _ u2 sr2 er2 e2 ho2=>step sr2 er2 ho2 λ h s3 ρ3 H3 h' _ u3 sr3 er3 e3 ho3=>by
   cases (show l=l' from e2)
   cases (show h=h' from e3)
   have vr1:VR T ρ1 H1 v x:=vr1
   cases v with
   | str z=>
    cases vr1.str_inv
    obtain⟨hz,ho4⟩:=ho3.ifInv
    exact⟨z,rfl,hz,ho4.hereV sr3 vr_str⟩
   | _=>exact ho3.elim
end
mutual
def depA:AV->Nat
 | .tup xs=>depAs xs+1
 | .sq xs=>depAs xs+1
 | _=>0
def depAs:List AV->Nat
 | []=>0
 | v :: r=>max (depA v) (depAs r)
end
section
variable {T:Tx}{XE:XEt}{X:Cx}{pins:List (Addr × Obj)}{σ:St}{H:Hp}{s:Shared}{ρ:List Addr}
end
section
variable {T:Tx}{XE:XEt}{X:Cx}{pos:Pos}
end
end Mm
namespace L2
open PySem PySem.Spec PyProof.Rows
section
variable {prog:Program}{w:World}{A:Around}{E:Value->Shared->Prop}{s:Shared}
end
end L2
namespace Mm
open PySem L2
section
variable {T:Tx}{XE:XEt}{X:Cx}{pos:Pos}
def kindOf:AV->Bool
 | .tup _=>true
 | _=>false
end
end Mm
namespace Ro
open PySem L2 Mm
def k_LONGEST_NAME:AV:=.int 8
noncomputable def b_is_number:Ms:=
 (sRet (mAnd (mUn (opIsi "int") (mv 0)) (mUn opNot (mUn (opIsi "bool") (mv 0)))))
noncomputable def f_is_number:List AV->S->R AV:=fnR 1 b_is_number
noncomputable def b_is_tuple_of:Ms:=
 (sRet (mAnd (mUn (opIsi "tuple") (mv 0)) (mBin opEq (mOp opLen (pCons (mv 0) pNil)) (mv 1))))
noncomputable def f_is_tuple_of:List AV->S->R AV:=fnR 2 b_is_tuple_of
noncomputable def b_is_name:Ms:=
 (sSeq (sIf (cOr (cNot (cT (mUn (opIsi "str") (mv 0)))) (cNot (cB (mChain opLe opLe (mc (.int 1)) (mOp opLen (pCons (mv 0) pNil)) (mc k_LONGEST_NAME))))) (sRet (mc (.bl false))) sSkip)
 (sRet (gOp qAll (lComp [("sign",none)] (srcS (mv 0)) (gN 0) cYes (mChain opLeS opLeS (mc (.str "a")) (mv 0) (mc (.str "z")))))))
noncomputable def f_is_name:List AV->S->R AV:=fnR 1 b_is_name
end Ro
namespace Mm
open PySem L2
def kPd:Key->PyData
 | .inl i=>.int i
 | .inr x=>.str x
def toP:Nat->S->AV->Option PyData
 | _,_,.non=>some .none
 | _,_,.bl b=>some (.bool b)
 | _,_,.int b=>some (.int b)
 | _,_,.str b=>some (.str b)
 | n+1,s,.tup xs=>(xs.mapM (toP n s)).map .tuple
 | n+1,s,.ref i=>match s[i]? with
  | some (.lst xs)=>(xs.mapM (toP n s)).map .list
  | some (.dK kvs)=>((kvs.map (·.2)).mapM (toP n s)).map λ vs=>.dict ((kvs.map λ p=>kPd p.1).zip vs)
  | _=>none
 | _,_,_=>none
mutual
def hasL:PyData->Bool
 | .list _=>true
 | .tuple xs=>hasLs xs
 | .dict kvs=>hasLk kvs
 | _=>false
def hasLs:List PyData->Bool
 | []=>false
 | x :: xs=>hasL x || hasLs xs
def hasLk:List (PyData × PyData)->Bool
 | []=>false
 | (_,v) :: r=>hasL v || hasLk r
end
section
variable {T:Tx}{XE:XEt}{X:Cx}{pos:Pos}
def RdV (h:Heap)(v:V)(d:PyData):Prop:=∀ u,RelV v u->∃ as,Reads h u d as/\(hasL d=false->sysModules∉as)
theorem readsAll_of {ρ:List Addr}{H:Hp}{h:Heap}{f:AV->Option PyData}(hf:∀ v d x,f v=some d->VR T ρ H v x->RdV h x d):∀ {xs:List AV}{l:List PyData}{vs:List V}{us:List Value},xs.mapM f=some l->VRs T ρ H xs vs->Vals vs us->∃ as,ReadsAll h us l as/\(hasLs l=false->sysModules∉as)
 | [],l,vs,us,e,k,r=>by
  rw[List.mapM_nil]at e
  cases e
  cases k.nil_inv
  cases r
  exact⟨[],.nil,λ _ z=>nomatch z⟩
 | a :: r',l,vs,us,e,k,r=>by
  obtain⟨b,q,e1,e2,rfl⟩:=mapM_cons'' e
  obtain⟨x,ys,rfl,k1,k2⟩:=k.cons_inv
  cases r with
  | cons r1 r2=>
   obtain⟨as,h1,h2⟩:=hf a b x e1 k1 _ r1
   obtain⟨bs,h3,h4⟩:=readsAll_of hf e2 k2 r2
   refine⟨as++bs,.cons h1 h3,λ z m=>?_⟩
   unfold hasLs at z
   obtain⟨z1,z2⟩:=Bool.or_eq_false_iff.mp z
   exact(List.mem_append.mp m).elim (h2 z1) (h4 z2)
where
 mapM_cons'' {α β:Type}{f:α->Option β}{a:α}{l:List α}{r:List β}(h:(a :: l).mapM f=some r):∃ b q,f a=some b/\l.mapM f=some q/\r=b :: q:=by
  rw[List.mapM_cons]at h
  cases e1:f a with
  | none=>rw[e1]at h;cases h
  | some b=>
   cases e2:l.mapM f with
   | none=>rw[e1,e2]at h;cases h
   | some q=>rw[e1,e2]at h;cases h;exact⟨b,q,rfl,rfl,rfl⟩
theorem keys_read {h:Heap}{prog:Program}{w:World}:∀ {es:List DictEntry}{vs:List (Key × Value)},PySem.Pairs (mixKind prog w) es vs->ReadsAll h (es.map (·.key)) (vs.map λ p=>kPd p.1) []/\es.map (·.val)=vs.map (·.2)
 | _,_,.nil=>⟨.nil,rfl⟩
 | _,_,.cons (e:=e) (kv:=kv) hk hv hr=>by
  obtain⟨h1,h2⟩:=keys_read hr
  refine⟨?_,by simp only[List.map_cons,hv,h2]⟩
  obtain⟨k,v⟩:=kv
  have hk:keyIs k e.key=true:=hk
  rcases keyIs_shape hk with⟨i,t,rfl,q⟩|⟨x,t,rfl,q⟩
  ·rw[List.map_cons,q];exact .cons (as:=[]) (.int i t) h1
  ·rw[List.map_cons,q];exact .cons (as:=[]) (.str x t) h1
theorem hasLk_zip:∀ {ks:List PyData}{vs:List PyData},ks.length=vs.length->hasLk (ks.zip vs)=hasLs vs
 | [],[],_=>by simp[hasLk,hasLs]
 | [],_ :: _,h=>by simp at h
 | _ :: _,[],h=>by simp at h
 | k :: ks,v :: vs,h=>by simp only[List.zip_cons_cons,hasLk,hasLs,hasLk_zip (by simpa using h)]
theorem mapM_len {α β:Type}{f:α->Option β}:∀ {l:List α}{r:List β},l.mapM f=some r->l.length=r.length
 | [],r,h=>by rw[List.mapM_nil]at h;cases h;rfl
 | a :: l,r,h=>by
  obtain⟨b,q,_,h2,rfl⟩:=mapM_cons' h
  simp[mapM_len h2]
theorem kv_split:∀ {κ:Type}{ks:List (κ × V)}{vs:List (κ × Value)},KV ks vs->ks.map (·.1)=vs.map (·.1)/\Vals (ks.map (·.2)) (vs.map (·.2))
 | _,_,_,.nil=>⟨rfl,.nil⟩
 | _,_,_,.cons r t=>by
  obtain⟨h1,h2⟩:=kv_split t
  exact⟨by simp only[List.map_cons,r.1,h1],.cons r.2 h2⟩
theorem reads_of {ρ:List Addr}{H:Hp}{s:S}{pins:List (Addr × Obj)}{σ:St}{sh:Shared}(sr:SR T ρ s H)(I:Inv X pins σ H sh)(hK:X.K=T.K):∀ (n:Nat) (v:AV) (d:PyData) (x:V),toP n s v=some d->VR T ρ H v x->RdV sh.heap x d
 | n,.non,d,x,h,k=>by
  unfold toP at h;cases h;cases k.non_inv
  intro u r;cases r;exact⟨[],.none,λ _ z=>nomatch z⟩
 | n,.bl b,d,x,h,k=>by
  unfold toP at h;cases h;cases k.bl_inv
  intro u r;cases r;exact⟨[],.bool b,λ _ z=>nomatch z⟩
 | n,.int b,d,x,h,k=>by
  unfold toP at h;cases h;cases k.int_inv
  intro u r;obtain⟨t,rfl⟩:=r;exact⟨[],.int b t,λ _ z=>nomatch z⟩
 | n,.str b,d,x,h,k=>by
  unfold toP at h;cases h;cases k.str_inv
  intro u r;obtain⟨t,rfl⟩:=r;exact⟨[],.str b t,λ _ z=>nomatch z⟩
 | 0,.tup xs,d,x,h,k=>by unfold toP at h;cases h
 | 0,.ref i,d,x,h,k=>by unfold toP at h;cases h
 | 0,.sq xs,d,x,h,k=>by unfold toP at h;cases h
 | n+1,.sq xs,d,x,h,k=>by unfold toP at h;cases h
 | n+1,.tup xs,d,x,h,k=>by
  unfold toP at h
  cases e:xs.mapM (toP n s) with
  | none=>rw[e]at h;cases h
  | some l=>
   rw[e]at h;cases h
   unfold VR at k
   obtain⟨a,vs,rfl,h1,h2⟩:=k
   intro u r
   cases (show u=Value.ref a from r)
   obtain⟨its,vr,⟨o,g1,g2,m,g3⟩,_⟩:=I.tuple (by rw[hK];exact h1)
   obtain⟨as,ra,hs⟩:=readsAll_of (λ v d x e k=>reads_of sr I hK n v d x e k) e h2 vr
   exact⟨as,.tuple g1 g2 g3 ra,λ z=>hs (by unfold hasL at z;exact z)⟩
 | n+1,.ref i,d,x,h,k=>by
  unfold toP at h
  split at h
  ·rename_i xs ei
   cases e:xs.mapM (toP n s) with
   | none=>rw[e]at h;cases h
   | some l=>
    rw[e]at h;cases h
    obtain⟨a,vs,rfl,_,h1,h2⟩:=sr.lstAt ei k
    intro u r
    cases (show u=Value.ref a from r)
    obtain⟨_,its,m,vr,g⟩:_/\∃ (its:List Value) (m:Nat),Vals vs its/\sh.heap.get? a=some { cls:=.type "list",data:=.seq its.toArray m }:=I.hok a _ h1
    obtain⟨as,ra,hs⟩:=readsAll_of (λ v d x e k=>reads_of sr I hK n v d x e k) e h2 vr
    exact⟨a :: as,.list g rfl rfl ra,λ z=>by unfold hasL at z;cases z⟩
  ·rename_i kvs ei
   cases e:(kvs.map (·.2)).mapM (toP n s) with
   | none=>rw[e]at h;cases h
   | some l=>
    rw[e]at h;cases h
    obtain⟨a,ks,rfl,_,h1,q1,q2⟩:=sr.dKAt ei k
    intro u r
    cases (show u=Value.ref a from r)
    obtain⟨_,hsy,vs,rel,o,es,ep,g1,g2,g3,_,g5,_⟩:=dk_of I.hok h1
    obtain⟨w1,w2⟩:=keys_read (h:=sh.heap) g5
    obtain⟨p1,p2⟩:=kv_split rel
    have ll:(kvs.map λ p=>kPd p.1).length=l.length:=by rw[List.length_map,<-mapM_len e,List.length_map]
    obtain⟨as,ra,hs⟩:=readsAll_of (λ v d x e k=>reads_of sr I hK n v d x e k) e q2 p2
    refine⟨a :: []++as,.dict g1 g2.1 g3 ?_ ?_,λ z m=>?_⟩
    ·rw[List.map_fst_zip (Nat.le_of_eq ll)]
     have:(kvs.map λ p=>kPd p.1)=vs.map λ p=>kPd p.1:=by
      have h1:(kvs.map λ p=>kPd p.1)=(kvs.map (·.1)).map kPd:=by rw[List.map_map];rfl
      have h2:(vs.map λ p=>kPd p.1)=(vs.map (·.1)).map kPd:=by rw[List.map_map];rfl
      rw[h1,h2,q1,p1]
     rw[this];exact w1
    ·rw[List.map_snd_zip (Nat.le_of_eq ll.symm),w2];exact ra
    ·unfold hasL at z
     rw[hasLk_zip ll]at z
     rcases List.mem_cons.mp (show sysModules∈a :: as from m) with e|m
     ·exact absurd e.symm (beq_eq_false_iff_ne.mp hsy)
     ·exact hs z m
  ·cases h
def txtP:PyData->Str
 | .str x=>x
 | d=>d.shown
structure Shw (d:PyData):Prop where
 sh:d.showable=true
 dl:d.hasDict=true->hasL d=false
 dp:d.depth<=30
 ln:(txtP d).length<=sizeLine
noncomputable instance {d:PyData}:Decidable (Shw d):=Classical.propDecidable _
noncomputable def opStrD:List AV->S->R AV
 | [v],s=>need (toP 20 s v) λ d=>if Shw d then .ok (.str (txtP d)) s else .bad
 | _,_=>.bad
theorem cStrD {k:Nat}(hK:X.K=T.K)(hr:Room k X.A):CallR X (.type "str") (rCM T XE opStrD):=by
 intro pins s σ H xs us Q I r ⟨ρ,args,st,sr,va,ho⟩
 unfold opStrD at ho
 split at ho
 ·rename_i v
  obtain⟨x,rfl,kx⟩:=va.one_inv
  obtain⟨d,e,ho⟩:=ho.needInv
  obtain⟨hs,ho⟩:=ho.ifInv
  obtain⟨u,rfl,r1⟩:=vals1 r
  have fin:∀ h' t tk,(∀ b o,s.heap.get? b=some o->h'.get? b=some o)->EP X pins σ Q (.str (txtP d) t) { s with heap:=h',toks:=tk }:=λ h' t tk hk=>⟨.str (txtP d),H,I.kept hk,⟨_,rfl⟩,ho.hereV sr vr_str⟩
  obtain⟨as,rd,hsy⟩:=reads_of sr I hK 20 v d x e kx u r1
  have hu:=hr.units
  have big:∀ a,u=.ref a->(txtP d=d.shown)->wpAny (model X.prog X.w) X.A (call (.type "str") [u]) (EP X pins σ Q) X.xe s:=by
   rintro a rfl ed
   refine str_of_reads rd hs.sh (λ hd=>hsy (hs.dl hd)) hr.gd (by have:=hs.dp;omega) (λ _ _ e=>e) (λ h' t tk hk=>?_) (by rw[<-ed];exact hs.ln)
   rw[<-ed];exact fin h' t tk hk
  cases rd with
  | none=>exact PySem.P.str_of_none (fin _ _ _ λ _ _ e=>e)
  | bool b=>exact PySem.P.str_of_bool (fin _ _ _ λ _ _ e=>e)
  | int i t=>
   have:i.natAbs.log2 < 1920:=by have:=hs.sh;simpa[PyData.showable]using this
   exact PySem.P.str_of_int this (fin _ _ _ λ _ _ e=>e)
  | str y t=>exact PySem.P.str_of_str (fin s.heap t s.toks λ _ _ e=>e)
  | list _ _ _ _=>exact big _ rfl rfl
  | tuple _ _ _ _=>exact big _ rfl rfl
  | dict _ _ _ _ _=>exact big _ rfl rfl
 ·exact ho.elim
end
end Mm
namespace L2
open PySem PySem.Spec PyProof.Rows
def rJoinV:V->List V->Hp->VK->Prop:=λ x vs H Q=>∃ (sep:Str)(l:Addr)(ss:List Str),x=.str sep/\vs=[.ref l]/\H l=some (.lst (ss.map V.str))/\PySem.Builtin.Str.tooLong (ss.toArray.foldl (·+·.length+sep.length) 0)=false/\Q (.str (Txt.join sep ss)) H
theorem mt_joinV {X:Cx}:MtR X "str.join" rJoinV:=by
 intro pins s σ H x vs v us Q I rx rv h
 obtain⟨sep,l,ss,rfl,rfl,hH,hz,q⟩:=h
 obtain⟨tk,rfl⟩:=rx
 obtain⟨u,rfl,ru⟩:=rv.one
 cases (show u=Value.ref l from ru)
 obtain⟨z,its,n,r,hl,e⟩:=I.lstM hH
 obtain⟨ps,e1,e2⟩:=strs_of_vals r
 subst e1
 refine call_meets F.slot_str_join ((tyV_is (T:="str") (x:=.str sep) I ⟨tk,rfl⟩ rfl).1) F.entry_str_join (F.args_str_join_2 _ _) (meets_str_join_list sep tk l ps (by rw[e2];exact hz)) ⟨⟨_,e,rfl,n,rfl⟩,?_⟩
 refine post_join ps ⟨joinFit_length (by rw[e2];exact hz),λ t' k=>?_⟩
 rw[e2]
 exact⟨.str _,H,I.tok _,⟨_,rfl⟩,q⟩
end L2
namespace Mm
open PySem L2
section
variable {T:Tx}{XE:XEt}{X:Cx}{pos:Pos}
def opJoin:AV->List AV->S->R AV
 | .str sep,[.ref i],s=>need (lstO s i) λ xs=>need (txts xs) λ ss=>if PySem.Builtin.Str.tooLong (ss.toArray.foldl (·+·.length+sep.length) 0)=false then .ok (.str (Txt.join sep ss)) s else .bad
 | _,_,_=>.bad
theorem dJoin:MtR X "str.join" (rMM T XE opJoin):=by
 intro pins s σ H x xs v us Q I rx rv ⟨ρ,a,vs,st,sr,va,vb,ho⟩
 unfold opJoin at ho
 split at ho
 ·obtain⟨ys,e,ho⟩:=ho.needInv
  obtain⟨ss,e2,ho⟩:=ho.needInv
  obtain⟨hl,ho⟩:=ho.ifInv
  cases va.str_inv
  obtain⟨y,rfl,k2⟩:=vb.one_inv
  obtain⟨p,ws,rfl,ea,h1,k⟩:=sr.lstAt (lstO_inv e) k2
  rw[txts_inv e2]at k
  have ew:ws=ss.map V.str:=strs_vr k
  subst ew
  exact mt_joinV pins s σ H _ _ v us Q I rx rv ⟨_,p,ss,rfl,rfl,h1,hl,ho.hereV sr vr_str⟩
 ·exact ho.elim
where
 strs_vr {ρ:List Addr}{H:Hp}:∀ {ss:List Str}{ws:List V},VRs T ρ H (ss.map AV.str) ws->ws=ss.map V.str
  | [],ws,h=>h.nil_inv
  | s :: r,ws,h=>by
   obtain⟨x,ys,rfl,k1,k2⟩:=h.cons_inv
   cases k1.str_inv
   rw[strs_vr k2];rfl
theorem VRs.rep {ρ:List Addr}{H:Hp}{l:List AV}{xs:List V}(h:VRs T ρ H l xs):∀ n:Nat,VRs T ρ H (List.replicate n l).flatten (List.replicate n xs).flatten
 | 0=>by simp;exact .nil
 | n+1=>by rw[List.replicate_succ,List.flatten_cons,List.replicate_succ,List.flatten_cons];exact h.append (VRs.rep h n)
end
end Mm
namespace L2
open PySem PySem.Spec PyProof.Rows
end L2
namespace Mm
open PySem L2
section
variable {T:Tx}{XE:XEt}{X:Cx}{pos:Pos}
end
end Mm
namespace PySem
open Sem (wp)
open Builtin
theorem dict_eq_declines_str (l:Addr)(es:Array DictEntry)(n:Nat)(dd:Option Addr)(sl:Array (Option Value)) (b:Str)(u:Tok) :
  Meets (Builtin.«dict.__eq__» ⟨[.ref l,.str b u],[]⟩) (λ _ R s=>s.heap.get? l=some { cls:=.type "dict",dict:=dd,data:=.dict es n,slots:=sl }/\R (.ok (.ret Value.notImplemented)) s):=
 .of_wp λ prog w A R s h=>by obtain⟨hp,g,d,tk,os⟩:=s;obtain⟨hl,h⟩:=h;wp_walk;refine wpAny_of_eq F.sub_str_dict ?_;wp_walk;exact⟨_,rfl,h⟩
theorem str_eq_declines_dict (b:Str)(u:Tok)(l:Addr)(es:Array DictEntry)(n:Nat)(dd:Option Addr)(sl:Array (Option Value)) :
  Meets (Builtin.«str.__eq__» ⟨[.str b u,.ref l],[]⟩) (λ _ R s=>s.heap.get? l=some { cls:=.type "dict",dict:=dd,data:=.dict es n,slots:=sl }/\R (.ok (.ret Value.notImplemented)) s):=
 .of_wp λ prog w A R s h=>by obtain⟨hp,g,d,tk,os⟩:=s;obtain⟨hl,h⟩:=h;wp_walk;exact⟨_,rfl,h⟩
theorem int___rmul___int_tuple (a:Int)(t:Tok)(l:Addr)(items:Array Value)(n:Nat)(dd:Option Addr)(sl:Array (Option Value)) :
  Meets (Builtin.«int.__rmul__» ⟨[.int a t,.ref l],[]⟩) (λ _ R s=>s.heap.get? l=some { cls:=.type "tuple",dict:=dd,data:=.seq items n,slots:=sl }/\R (.ok (.ret Value.notImplemented)) s):=
 .of_wp λ prog w A R s h=>by obtain⟨hp,g,d,tk,os⟩:=s;obtain⟨hl,h⟩:=h;wp_walk;exact⟨_,rfl,h⟩
theorem noFill_tuple_mul:fillsNumberSlot (.type "tuple") "mul"=pure false:=
 fillsNumberSlot_seq (id:="tuple.__mul__") (r:=some (.builtin "tuple.__rmul__")) F.slot_tuple_mul.lookup (by decide +kernel) F.slot_tuple_rmul.lookup (by decide +kernel)
theorem repeat_tuple:seqRepeat? (.type "tuple")=pure (some (.builtin "tuple.__mul__")):=by
 unfold seqRepeat?
 rw[seqSlot_of (T:="tuple") (name:="__mul__") (id:="tuple.__mul__") F.slot_tuple_mul.lookup (by decide +kernel),seqSlot_of (T:="tuple") (name:="__rmul__") (id:="tuple.__rmul__") F.slot_tuple_rmul.lookup (by decide +kernel)]
 rfl
theorem range_contains_int (r:Addr)(a b i:Int)(t u v q:Tok)(dd:Option Addr)(sl:Array (Option Value)) :
  Meets (Builtin.«range.__contains__» ⟨[.ref r,.int i q],[]⟩) (λ _ R s=>s.heap.get? r=some { cls:=.type "range",dict:=dd,data:=.fields #[.int a t,.int b u,.int 1 v],slots:=sl }/\R (.ok (.ret (.bool (Builtin.Range.rangePlace? a b 1 i).isSome))) s):=
 .of_wp λ prog w A R s h=>by obtain⟨hp,g,d,tk,os⟩:=s;obtain⟨hl,h⟩:=h;wp_walk;exact⟨_,rfl,h⟩
end PySem
namespace PySem
open Sem (wp)
open Builtin
theorem fold_size (items:Array Value):∀ (m:Nat) (acc:Array Value),(List.foldl (λ x1 x2=>x1++x2) acc (List.replicate m items)).size=acc.size+m * items.size
 | 0,acc=>by simp
 | m+1,acc=>by
  rw[List.replicate_succ,List.foldl_cons,fold_size items m,Array.size_append,Nat.succ_mul];omega
theorem rep_size (items:Array Value)(k:Int)(h2:k<=1000)(h3:items.size<=1000):¬(List.foldl (λ x1 x2=>x1++x2) #[] (List.replicate k.toNat items)).size > sizeLine:=by
 rw[fold_size]
 have:k.toNat * items.size<=1000 * 1000:=Nat.mul_le_mul (by omega) h3
 have:sizeLine=2 ^ 24:=rfl
 simp
 omega
theorem tuple_mul (k:Int)(t:Tok)(l:Addr)(items:Array Value)(n:Nat)(dd:Option Addr)(sl:Array (Option Value)) (h0:items.isEmpty=false)(h1:2<=k)(h2:k<=1000)(h3:items.size<=1000) :
  Meets (Builtin.«tuple.__mul__» ⟨[.ref l,.int k t],[]⟩) (λ _ R s=>s.heap.get? l=some { cls:=.type "tuple",dict:=dd,data:=.seq items n,slots:=sl }/\R (.ok (.ret (.ref s.heap.objs.size))) { s with heap:=s.heap.push { cls:=.type "tuple",data:=.seq ((List.replicate k.toNat items).foldl (·++·) #[]) } }):=
 .of_wp λ prog w A R s h=>by
  obtain⟨hp,g,d,tk,os⟩:=s
  obtain⟨hl,h⟩:=h
  have e1:(decide (k < -(2 ^ 63)) || decide (k ≥ 2 ^ 63))=false:=by simp;omega
  have e2:(items.isEmpty || k == 1)=false:=by rw[h0];simp;omega
  have e3:(decide (k<=0) || items.isEmpty)=false:=by rw[h0];simp;omega
  have e4:¬ ((items.size:Int) * k > (2 ^ 63 - 1) / 8):=by
   have:(items.size:Int) * k<=1000 * 1000:=Int.mul_le_mul (by omega) h2 (by omega) (by omega)
   omega
  have e5:Tuple.tupleTooMany ((items.size:Int) * k)=false:=by
   have:(items.size:Int) * k<=1000 * 1000:=Int.mul_le_mul (by omega) h2 (by omega) (by omega)
   unfold Tuple.tupleTooMany
   have:(sizeLine:Int)=2 ^ 24:=rfl
   simp
   omega
  wp_walk
  rw[if_neg (by rw[e1];exact Bool.false_ne_true)]
  wp_walk
  rw[if_neg (by rw[e2];exact Bool.false_ne_true)]
  wp_walk
  rw[if_neg (by rw[e3];exact Bool.false_ne_true)]
  wp_walk
  rw[if_neg e4]
  wp_walk
  rw[if_neg (rep_size items k h2 h3)]
  wp_walk
  exact⟨_,rfl,h⟩
end PySem
namespace L2
open PySem PySem.Spec PyProof.Rows Mm
section
variable {X:Cx}{pos:Pos}
end
end L2
namespace L2
open PySem PySem.Spec PyProof.Rows
end L2
namespace Mm
open PySem L2
section
variable {T:Tx}{XE:XEt}{X:Cx}{pos:Pos}
end
end Mm
namespace Ro
open PySem L2 Mm
section
variable {P:Program}{w:World}{T:Tx}{mg:Str->Option Value}{base:Heap}
end
end Ro
namespace Mm
open PySem L2
section
variable {T:Tx}{XE:XEt}{X:Cx}{pos:Pos}
end
end Mm
namespace L2
open PySem PySem.Spec PyProof.Rows
theorem op_repT {X:Cx}:OpR X (binaryOp .Mult) (λ x y H Q=>∃ l k xs,x=.ref l/\y=.int k/\SqT X.K H l xs/\xs≠[]/\2<=k/\k<=1000/\xs.length<=1000/\∀ p,H p=none->Q (.ref p) (upd H p (.tup (List.replicate k.toNat xs).flatten))):=by
 intro pins s σ H x y v u Q I rx ry h
 obtain⟨l,k,xs,rfl,rfl,hH,hne,h1,h2,hz,q⟩:=h
 cases rx
 obtain⟨t,rfl⟩:=ry
 obtain⟨its,r,⟨o,ho,hc,n,hd⟩,_⟩:=I.tuple hH
 obtain⟨cls,dd,data,sl⟩:=o
 simp only at hc hd
 subst hc hd
 have hl:=r.length
 have he:its.toArray.isEmpty=false:=by
  cases its with
  | nil=>cases r;exact absurd rfl hne
  | cons a b=>rfl
 have hs:its.toArray.size<=1000:=by rw[List.size_toArray];omega
 have hnew:List.foldl (λ x1 x2=>x1++x2) #[] (List.replicate k.toNat its.toArray)=(List.replicate k.toNat its).flatten.toArray:=by
  have:=foldl_rep its k.toNat []
  rw[List.nil_append]at this
  exact this
 refine wpAny_binaryOp_repeat_ref (T:="tuple") (U:="int") (by decide) ⟨_,ho,rfl⟩ (λ s'=>typeIs_int s' k t) noFill_tuple_mul F.fills_int_mul F.slot_int_rmul repeat_tuple F.slot_int_index.lookup
  (call_meets F.slot_int_rmul (typeIs_int s k t) F.entry_int_rmul (F.args_int_rmul_2 _ _) (int___rmul___int_tuple k t l its.toArray n dd sl)
   ⟨ho,rfl,⟨_,ho,rfl⟩,call_meets F.slot_tuple_mul ⟨_,ho,rfl⟩ F.entry_tuple_mul (F.args_tuple_mul_2 _ _) (tuple_mul k t l its.toArray n dd sl he h1 h2 hs) ⟨ho,?_⟩⟩)
 rw[hnew]
 have hlen:(List.replicate k.toNat xs).flatten.length<=sizeLine:=by
  rw[len_rep]
  have:k.toNat * xs.length<=1000 * 1000:=Nat.mul_le_mul (by omega) hz
  have:sizeLine=2 ^ 24:=rfl
  omega
 exact⟨.ref _,_,I.laid (a:=s.heap.objs.size) (o:=.tup (List.replicate k.toNat xs).flatten) (t':=s.toks) (λ b ob q=>Heap.get?_push_of_some _ q) (Nat.le_refl _) ⟨hlen,_,r.rep k.toNat,⟨_,Heap.get?_push_size _ rfl,rfl,0,rfl⟩⟩,rfl,q _ (I.hok.fresh (Nat.le_refl _))⟩
theorem call_rng2 {X:Cx}:CallR X (.type "range") (λ xs H Q=>∃ a b,xs=[.int a,.int b]/\∀ p,H p=none->Q (.ref p) (upd H p (.rng a b))):=by
 intro pins s σ H xs us Q I r h
 obtain⟨a,b,rfl,q⟩:=h
 obtain⟨u,w,rfl,⟨t,rfl⟩,⟨t',rfl⟩⟩:∃ u w,us=[u,w]/\RelV (.int a) u/\RelV (.int b) w:=by
  cases r with
  | cons p q=>cases q with|cons p' q'=>cases q';exact⟨_,_,rfl,p,p'⟩
 exact call_range_2 ⟨.ref _,_,I.laid (a:=s.heap.objs.size) (o:=.rng a b) (t':=s.toks+1) (λ b ob q=>Heap.get?_push_of_some _ q) (Nat.le_refl _) ⟨_,_,_,Heap.get?_push_size _ rfl⟩,rfl,q _ (I.hok.fresh (Nat.le_refl _))⟩
theorem place_in (a b i:Int):(Builtin.Range.rangePlace? a b 1 i).isSome=decide (a<=i/\i < b):=by
 unfold Builtin.Range.rangePlace?
 simp only[show(1:Int) > 0 from by decide,if_true,Int.emod_one,beq_self_eq_true,Bool.and_true]
 by_cases h:a<=i/\i < b
 ·rw[if_pos (by simpa using h)];simp[h]
 ·rw[if_neg (by simpa using h)];simp[h]
theorem op_ninR {X:Cx}:OpR X (compareOp .NotIn) (λ x y H Q=>∃ i p a b,x=.int i/\y=.ref p/\H p=some (.rng a b)/\Q (.bl (!decide (a<=i/\i < b))) H):=by
 intro pins s σ H x y v u Q I rx ry h
 obtain⟨i,p,a,b,rfl,rfl,hH,q⟩:=h
 obtain⟨t,rfl⟩:=rx
 cases ry
 obtain⟨t1,t2,t3,ho⟩:=I.hok p _ hH
 refine PySem.SeqRoads2.notIn_meets ⟨_,ho,rfl⟩ F.slot_range_contains F.entry_range_contains (F.args_range_contains_2 _ _) (range_contains_int p a b i t1 t2 t3 t none #[]) ⟨ho,_,rfl,?_⟩
 rw[place_in]
 exact⟨.bl _,H,I,rfl,q⟩
theorem rc_dict_str {A:Around}{s:Shared}{l:Addr}{es:Array DictEntry}{n:Nat}{o:Obj}(ho:s.heap.get? l=some o)(hx:o.ExactDict)(hd:o.data=.dict es n)(b:Str)(u:Tok)(hu:A.units < cLine):SeqAt.RcAt A s (.ref l) (.str b u) false:=λ prog w E Q h=>by
 obtain⟨cls,dd,data,sl⟩:=o
 obtain⟨hc,_,_⟩:=hx
 simp only at hc hd
 subst hc hd
 exact SeqAt.rc_eq_decline_or (k:=false) ⟨_,ho,rfl⟩ (typeIs_str s b u) (by decide) F.sub_str_dict F.slot_dict_eq F.slot_str_eq_refl
  (λ _ hq=>call_meets F.slot_dict_eq ⟨_,ho,rfl⟩ F.entry_dict_eq (F.args_dict_eq_2 _ _) (dict_eq_declines_str l es n dd sl b u) ⟨ho,hq⟩)
  (λ _ hq=>call_meets F.slot_str_eq_refl (typeIs_str s b u) F.entry_str_eq (F.args_str_eq_2 _ _) (str_eq_declines_dict b u l es n dd sl) ⟨ho,hq⟩)
  (λ _ hq=>wpAny_of_eq (rfl:isSame (.ref l) (.str b u)=pure false) hq) (.inr hu) h
end L2
namespace Mm
open PySem L2
section
variable {T:Tx}{XE:XEt}{X:Cx}{pos:Pos}
def opMulT:AV->AV->S->R AV
 | .tup xs,.int k,s=>if xs≠[]/\(2<=k/\k<=1000)/\xs.length<=1000 then .ok (.tup (List.replicate k.toNat xs).flatten) s else .bad
 | _,_,_=>.bad
theorem oMulT (hK:X.K=T.K):OpR X (binaryOp .Mult) (r2M T XE opMulT):=by
 intro pins s σ H x y v u Q I rx ry ⟨ρ,a,b,st,sr,va,vb,ho⟩
 cases a<;>cases b<;>try exact ho.elim
 obtain⟨⟨hn,⟨h1,h2⟩,h3⟩,ho⟩:=ho.ifInv
 obtain⟨p,vs,rfl,hH,k⟩:=va.tup_inv
 cases vb.int_inv
 have hl:=k.length
 refine op_repT pins s σ H _ _ v u Q I rx ry ⟨p,_,vs,rfl,rfl,hK ▸ hH,λ z=>hn (by rw[z]at hl;exact List.length_eq_zero_iff.mp hl),h1,h2,by omega,λ q hq=>ho.tup sr hq (VRs.rep k _)⟩
def mNinR (m:Ev)(a b:Int):Ev:=λ env s=>(m env s).bind λ v s1=>match v with
 | .int i=>.ok (.bl (!decide (a<=i/\i < b))) s1
 | _=>.bad
def opEqT (v w:AV)(s:S):R AV:=match v,w with
 | .tup _,.str _=>.ok (.bl false) s
 | .ref i,.str _=>match s[i]? with
  | some (.lst _)=>.ok (.bl false) s
  | some (.dK _)=>.ok (.bl false) s
  | _=>.bad
 | v,w=>opEq v w s
theorem oEqT (hK:X.K=T.K)(hu:X.A.units+30 < cLine):OpR X (compareOp .Eq) (r2M T XE opEqT):=by
 intro pins s σ H x y v u Q I rx ry ⟨ρ,a,b,st,sr,va,vb,ho⟩
 have hu0:X.A.units < cLine:=by omega
 unfold opEqT at ho
 split at ho
 ·obtain⟨p,vs,rfl,h1,k⟩:=va.tup_inv
  cases vb.str_inv
  obtain⟨t,rfl⟩:=ry
  cases rx
  obtain⟨its,_,p1,_⟩:=I.tuple (hK ▸ h1)
  exact SeqAt.RcAt.tuple_str _ _ p1 hu0 X.prog X.w _ _ ⟨.bl false,H,I,rfl,ho.hereV sr vr_bl⟩
 ·split at ho
  ·rename_i e
   obtain⟨p,vs,rfl,_,h1,k⟩:=sr.lstAt e va
   cases vb.str_inv
   obtain⟨t,rfl⟩:=ry
   cases rx
   obtain⟨its,_,p1,_⟩:=I.list (SqL.of h1)
   exact SeqAt.RcAt.list_str _ _ p1.isList hu0 X.prog X.w _ _ ⟨.bl false,H,I,rfl,ho.hereV sr vr_bl⟩
  ·rename_i e
   obtain⟨p,ks,rfl,_,h1,q1,q2⟩:=sr.dKAt e va
   cases vb.str_inv
   obtain⟨t,rfl⟩:=ry
   cases rx
   obtain⟨_,_,vs,rel,o,es,ep,g1,g2,g3,_⟩:=dk_of I.hok h1
   exact rc_dict_str g1 g2 g3 _ _ hu0 X.prog X.w _ _ ⟨.bl false,H,I,rfl,ho.hereV sr vr_bl⟩
  ·exact ho.elim
 ·exact oEq (T:=T) (XE:=XE) hK hu pins s σ H x y v u Q I rx ry ⟨ρ,a,b,st,sr,va,vb,ho⟩
end
end Mm
namespace L2
open PySem PySem.Spec PyProof.Rows
namespace HT
section
variable {prog:Program}{w:World}{A:Around}{E:Value->Shared->Prop}{s:Shared}
theorem adjust_rev (n:Nat):Builtin.Slice.sliceAdjust none none (-1) (n:Int)=((n:Int) - 1,-1):=by
 unfold Builtin.Slice.sliceAdjust
 simp
theorem places_rev (n:Nat):Builtin.Slice.slicePlaces ((n:Int) - 1) (-1) (-1)=n:=by
 unfold Builtin.Slice.slicePlaces
 simp
 omega
theorem sliceApplied_rev {sl:Addr}{n:Nat}{t:Tok}{Q:Int × Int × Nat->Shared->Prop}(hs:s.heap.IsSliceOf sl .none .none (.int (-1) t))
  (h:Q ((n:Int) - 1,-1,n) s):wpAny (model prog w) A (Builtin.Slice.sliceApplied (.ref sl) (pure (n:Int))) Q E s:=by
 obtain⟨os,hos,hcs,hds⟩:=id hs
 unfold Builtin.Slice.sliceApplied Builtin.Slice.sliceFields
 refine wpAny_bind (wpAny_bind (wpAny_field hos hds (x:=.none) rfl (wpAny_bind (wpAny_field hos hds (x:=.none) rfl (wpAny_bind (wpAny_field hos hds (x:=.int (-1) t) rfl (wpAny_pure ?_)))))))
 refine wpAny_bind (slicePart_int ?_)
 show wpAny _ _ (if ((-1:Int) == 0)=true then _ else _) _ _ s
 rw[if_neg (by decide)]
 refine wpAny_bind (slicePart_none (wpAny_bind (slicePart_none (wpAny_bind (wpAny_pure ?_)))))
 show wpAny _ _ (match Builtin.Slice.sliceAdjust none none (-1) (n:Int) with|(lo,hi)=>pure (lo,(-1:Int),Builtin.Slice.slicePlaces lo hi (-1))) _ _ s
 rw[adjust_rev n]
 show wpAny _ _ (pure ((n:Int) - 1,(-1:Int),Builtin.Slice.slicePlaces ((n:Int) - 1) (-1) (-1))) _ _ s
 rw[places_rev]
 exact wpAny_pure h
theorem pick_rev (its:List Value):((List.range its.length).filterMap λ(k:Nat)=>its.toArray[((its.length:Int) - 1+(k:Int) * (-1)).toNat]?).toArray=its.reverse.toArray:=by
 congr 1
 rw[<-rev_idx its]
 refine congrArg (λ f=>List.filterMap f (List.range its.length)) (funext λ k=>?_)
 rw[show((its.length:Int) - 1+(k:Int) * (-1)).toNat=its.length - 1 - k by omega]
 simp
theorem getItem_tuple_rev {a sl:Addr}{its:List Value}{t:Tok}{Q:Value->Shared->Prop}(ht:IsTup s.heap a its.toArray)(hs:s.heap.IsSliceOf sl .none .none (.int (-1) t))
  (h:Q (.ref s.heap.objs.size) { s with heap:=s.heap.push { cls:=.type "tuple",data:=.seq its.reverse.toArray } }) (hsz:its.length<=sizeLine):wpAny (model prog w) A (getItem (.ref a) (.ref sl)) Q E s:=by
 have htake:sizeOk (.seq its.reverse.toArray):=by
  show its.reverse.toArray.size<=sizeLine
  rw[List.size_toArray,List.length_reverse];exact hsz
 obtain⟨os,hos,hcs,hds⟩:=id hs
 have hTs:s.TypeIs (.ref sl) "slice":=⟨os,hos,hcs⟩
 unfold getItem
 try with_reducible refine wpAny_holding ?_
 first|refine wpAny_bind (wpAny_pure ?_)|skip
 refine wpAny_bind (wpAny_sequenceKey ht.typeIs (by decide) ?_)
 refine wpAny_bind (wpAny_callSpecial?_slot (name:=Str.ofString "__getitem__") ht.typeIs PyProof.Rows.slot_tuple_getitem
  (wpAny_call_entry PyProof.Rows.slot_tuple_getitem ht.typeIs entry_tuple_getitem ?_ (args_tuple_getitem _ _)))
 show wpAny _ _ (Builtin.Tuple.tupleItemsOf (.ref a) >>= _) _ _ s
 refine wpAny_bind (tupleItemsOf_ ht ?_)
 refine wpAny_bind (wpAny_typeOf hTs ?_)
 rw[if_pos (by decide)]
 rw[show its.toArray.size=its.length by simp]
 refine wpAny_bind (sliceApplied_rev (n:=its.length) hs ?_)
 show wpAny _ _ (if (((its.length:Int) - 1 == 0 && (-1:Int) == 1 && its.length == its.length))=true then _ else _) _ _ s
 rw[if_neg (by simp),pick_rev]
 exact wpAny_bind (m:=Builtin.Tuple.tupleExact _) (wpAny_newObj_type (wpAny_pure ⟨_,rfl,wpAny_pure h⟩) htake)
end
end HT
theorem pe_revT {X:Cx}{e st:Expr}{te ts:TE}{p2 pos:Pos}(he:PE X e te)(hst:PE X st ts):PE X (.Subscript e (.Slice none none (some st) p2) pos) (λ σ H Q=>te σ H λ x H1=>ts σ H1 λ y H2=>y=.int (-1)/\∃ a xs,x=.ref a/\SqT X.K H2 a xs/\∀ p,H2 p=none->Q (.ref p) (upd H2 p (.tup xs.reverse))):=by
 intro pins s σ H Q I h
 refine Subscript_ (thn (he pins s σ H _ I h) λ v s1 ⟨x,H1,I1,r1,q1⟩=>?_)
 refine wpAny_Slice ?_
 rw[evalPart_none]
 refine wpAny_pure (wpAny_pure ?_)
 rw[evalPart_some]
 refine thn (hst pins s1 σ H1 _ I1 q1) λ vs s3 ⟨y,H3,I3,r3,e3,q3⟩=>?_
 subst e3
 obtain⟨a,xs,rfl,hx,q⟩:=q3
 cases r1
 obtain⟨t3,rfl⟩:=r3
 have I4:Inv X pins σ H3 { s3 with heap:=s3.heap.push { cls:=.type "slice",data:=.fields #[Value.none,Value.none,Value.int (-1) t3] } }:=I3.kept (t':=s3.toks) λ b ob q=>Heap.get?_push_of_some _ q
 obtain⟨its,r,ht,hz⟩:=I4.tuple hx
 have hlen:=r.length
 show wpAny (model X.prog X.w) X.A (subscriptTail e (.Slice none none (some st) p2) (.ref a) (.ref s3.heap.objs.size)) (EP X pins σ Q) X.xe { s3 with heap:=s3.heap.push { cls:=.type "slice",data:=.fields #[Value.none,Value.none,Value.int (-1) t3] } }
 refine tail_any (ops:=[.ref a,.ref s3.heap.objs.size]) ht.typeIs PyProof.Rows.slot_tuple_getitem.lookup ?_ (by with_unfolding_all rfl)
 refine HT.getItem_tuple_rev ht (Heap.IsSliceOf.new ..) ?_ (by omega)
 refine⟨.ref _,_,I4.laid (t':=s3.toks) (o:=.tup xs.reverse) (λ b ob q=>Heap.get?_push_of_some _ q) (Nat.le_refl _) ?_,rfl,q _ (I4.hok.fresh (Nat.le_refl _))⟩
 exact⟨by rw[List.length_reverse];exact hz,_,r.rev,⟨_,Heap.get?_push_size _ rfl,rfl,0,rfl⟩⟩
end L2
namespace Mm
open PySem L2
section
variable {T:Tx}{XE:XEt}{X:Cx}{pos:Pos}
def mRevT (m k:Ev):Ev:=λ env s=>(m env s).bind λ v s1=>(k env s1).bind λ w s2=>match v,w with
 | .tup xs,.int (.negSucc 0)=>.ok (.tup xs.reverse) s2
 | _,_=>.bad
theorem me_revT {e st:Expr}{p2:Pos}{m k:Ev}(hK:X.K=T.K)(he:PE X e (tE T XE m)) (hk:PE X st (tE T XE k)):PE X (.Subscript e (.Slice none none (some st) p2) pos) (tE T XE (mRevT m k)):=
 PE.imp (pe_revT he hk) λ σ H Q ⟨ρ,env,s,hs,he,ho⟩=>
  step hs he ho λ v s1 ρ1 H1 x _ u1 sr1 er1 vr1 ho1=>step sr1 er1 ho1 λ w s2 ρ2 H2 y _ u2 sr2 er2 vr2 ho2=>by
   have vr1:VR T ρ2 H2 v x:=VR.up u2 vr1
   have vr2:VR T ρ2 H2 w y:=vr2
   split at ho2
   ·cases vr2.int_inv
    obtain⟨a,vs,rfl,h1,k1⟩:=vr1.tup_inv
    exact⟨rfl,a,vs,rfl,hK ▸ h1,λ p hp=>ho2.tup sr2 hp k1.reverse⟩
   ·exact ho2.elim
theorem pt_ninR {e:Expr}{p cp:Pos}{m:Ev}{a b:Int}{j1 j2 p1 p2} (hm:X.mg "range"=none)(h:PE X e (tE T XE m)) (hg:Gl X "range":=by rfl)
  (hmk:behindInMarks .NotIn (.Call (.Name "range" p) [.Constant (.int a) j1 p1,.Constant (.int b) j2 p2] [] cp)=false:=by rfl)
  (he:starEach [.Constant (.int a) j1 p1,.Constant (.int b) j2 p2] X.env=(false,eval (.Constant (.int a) j1 p1) X.env) :: starEach [.Constant (.int b) j2 p2] X.env:=by rfl) (he2:starEach [.Constant (.int b) j2 p2] X.env=(false,eval (.Constant (.int b) j2 p2) X.env) :: starEach [] X.env:=by rfl) (hpl:(backTo cp (starEach [.Constant (.int b) j2 p2] X.env)).any (·.1)=false:=by rfl) :
  PT X (.Compare e [.NotIn] [.Call (.Name "range" p) [.Constant (.int a) j1 p1,.Constant (.int b) j2 p2] [] cp] pos) (tC' T XE (cB (mNinR m a b))):=
 PT.imp (pt_cmpR op_ninR h (pe_callTy call_rng2 hg hm PyProof.Rows.boot_range (pa_cons pe_int (pa_cons pe_int pa_nil he2) he) (by decide) (by decide) he hpl) hmk) λ σ H Q h=>by
  obtain⟨ρ,env,s,hs,he,ho⟩:=tB_of h
  refine step hs he ho λ v s1 ρ1 H1 x _ u1 sr1 er1 vr1 ho1=>?_
  have vr1:VR T ρ1 H1 v x:=vr1
  cases v<;>try exact ho1.elim
  refine⟨a,b,rfl,λ q hq=>⟨_,q,a,b,vr1.int_inv,rfl,upd_same,?_⟩⟩
  exact ho1 ρ1 _ _ (sr1.upNew hq) (sr1.new hq) (vr_bl (T:=T) (ρ:=ρ1) (H:=upd H1 q (.rng a b)))
end
end Mm
namespace L2
open PySem PySem.Spec PyProof.Rows
theorem op_catT0 {X:Cx}:OpR X (binaryOp .Add) (λ x y H Q=>∃ a b xs,x=.ref a/\y=.ref b/\SqT X.K H a xs/\SqT X.K H b []/\xs≠[]/\Q (.ref a) H):=by
 intro pins s σ H x y v u Q I rx ry h
 obtain⟨a,b,xs,rfl,rfl,ha,hb,hx,q⟩:=h
 cases rx
 cases ry
 obtain⟨its,r1,p1,_⟩:=I.tuple ha
 obtain⟨its2,r2,p2,_⟩:=I.tuple hb
 obtain⟨⟨cls,dd,data,sl⟩,ho,hc,n,hd⟩:=id p1
 obtain⟨⟨cls2,dd2,data2,sl2⟩,ho2,hc2,n2,hd2⟩:=id p2
 simp only at hc hd hc2 hd2
 subst hc hd hc2 hd2
 have he:its2=[]:=r2.nil_iff.mpr rfl
 have h1:¬ its.toArray.isEmpty=true:=by
  intro z
  have:its=[]:=by simpa using z
  exact hx (r1.nil_iff.mp this)
 exact concat_meets ⟨_,ho,rfl⟩ ⟨_,ho2,rfl⟩ noFill_tuple_add seq_tuple_add PySem.F.slot_tuple_add PySem.F.entry_tuple_add (PySem.F.args_tuple_add_2 _ _)
  (tuple_addW1 a b its.toArray its2.toArray n n2 dd dd2 sl sl2 h1 (by simp[he])) ⟨ho,ho2,⟨.ref a,H,I,rfl,q⟩⟩
end L2
namespace Mm
open PySem L2
section
variable {T:Tx}{XE:XEt}{X:Cx}{pos:Pos}
def opAddT (v w:AV)(s:S):R AV:=match v,w with
 | .tup xs,.tup ys=>if xs.length+ys.length<=sizeLine then .ok (.tup (xs++ys)) s else .bad
 | v,w=>opAdd v w s
theorem oAddT (hK:X.K=T.K):OpR X (binaryOp .Add) (r2M T XE opAddT):=by
 intro pins s σ H x y v u Q I rx ry ⟨ρ,a,b,st,sr,va,vb,ho⟩
 unfold opAddT at ho
 split at ho
 ·rename_i xs ys
  obtain⟨hl,ho⟩:=ho.ifInv
  obtain⟨p,vs,rfl,h1,k1⟩:=va.tup_inv
  obtain⟨q,ws,rfl,h2,k2⟩:=vb.tup_inv
  have l1:=k1.length
  have l2:=k2.length
  by_cases hy:ys=[]
  ·subst hy
   cases k2.nil_inv
   rw[List.append_nil]at ho
   by_cases hx:xs=[]
   ·subst hx
    cases k1.nil_inv
    cases rx
    cases ry
    obtain⟨its,r1,p1,_⟩:=I.tuple (hK ▸ h1)
    obtain⟨its2,r2,p2,_⟩:=I.tuple (hK ▸ h2)
    obtain⟨⟨cls,dd,data,sl⟩,e1,hc,n,hd⟩:=id p1
    obtain⟨⟨cls2,dd2,data2,sl2⟩,e2,hc2,n2,hd2⟩:=id p2
    simp only at hc hd hc2 hd2
    subst hc hd hc2 hd2
    have he:its=[]:=r1.nil_iff.mpr rfl
    exact concat_meets ⟨_,e1,rfl⟩ ⟨_,e2,rfl⟩ noFill_tuple_add seq_tuple_add PySem.F.slot_tuple_add PySem.F.entry_tuple_add (PySem.F.args_tuple_add_2 _ _)
     (PyProof.Rows.tuple_addW0 p q its.toArray its2.toArray n n2 dd dd2 sl sl2 (by simp[he])) ⟨e1,e2,⟨.ref q,H,I,rfl,ho.hereV sr (vr_tup h2 .nil)⟩⟩
   ·exact op_catT0 pins s σ H _ _ v u Q I rx ry ⟨p,q,vs,rfl,rfl,hK ▸ h1,hK ▸ h2,λ z=>hx (by rw[z]at l1;exact List.length_eq_zero_iff.mp l1),ho.hereV sr (vr_tup h1 k1)⟩
  ·refine op_catT2 pins s σ H _ _ v u Q I rx ry ⟨p,q,vs,ws,rfl,rfl,hK ▸ h1,hK ▸ h2,λ z=>hy (by rw[z]at l2;exact List.length_eq_zero_iff.mp l2),by omega,λ hx=>?_,λ _ r hr=>ho.tup sr hr (k1.append k2)⟩
   have:xs=[]:=by rw[hx]at l1;exact List.length_eq_zero_iff.mp l1
   subst this
   exact ho.hereV sr (vr_tup h2 k2)
 ·exact oAdd (T:=T) (XE:=XE) hK pins s σ H x y v u Q I rx ry ⟨ρ,a,b,st,sr,va,vb,ho⟩
end
end Mm
namespace Ro
open PySem L2 Mm
def k_GREATEST_BELOW:AV:=.int 60
def k_MOST_ROWS:AV:=.int 8
def k_MOST_LEFT_ROWS:AV:=.int 3
def k_LEAST_RATES:AV:=.int 2
def k_MOST_RATES:AV:=.int 4
def k_GREATEST_UPTO:AV:=.int 1000000
def k_GREATEST_LENGTH:AV:=.int 1000
noncomputable def b_is_number_from:Ms:=
 (sRet (mAnd (mCall 1 f_is_number (pCons (mv 0) pNil)) (mChain opLe opLe (mv 1) (mv 0) (mv 2))))
noncomputable def f_is_number_from:List AV->S->R AV:=fnR 3 b_is_number_from
noncomputable def b_is_part:Ms:=
 (sSeq (sIf (cNot (cT (mCall 2 f_is_tuple_of (pCons (mv 0) (pCons (mc (.int 2)) pNil))))) (sRet (mc (.bl false))) sSkip)
 (sSeq (sAsg (mv 0) (gT 2 (gCons' (gN 1) (gCons' (gN 2) gNil'))))
 (sSeq (sIf (cOr (cNot (cT (mCall 3 f_is_number_from (pCons (mv 2) (pCons (mc (.int 1)) (pCons (mc k_GREATEST_BELOW) pNil)))))) (cNot (cT (mCall 3 f_is_number_from (pCons (mv 1) (pCons (mc (.int 1)) (pCons (mv 2) pNil))))))) (sRet (mc (.bl false))) sSkip)
 (sRet (mBin opEq (mCall 2 f_greatest_divisor (pCons (mv 1) (pCons (mv 2) pNil))) (mc (.int 1)))))))
noncomputable def f_is_part:List AV->S->R AV:=fnR 3 b_is_part
noncomputable def b_are_uptos:Ms:=
 (sSeq (sSet 1 (mc (.int 1)))
 (sSeq (sFor (srcV' (mv 0)) (gN 2) (sSeq (sIf (cNot (cT (mCall 3 f_is_number_from (pCons (mv 2) (pCons (mv 1) (pCons (mc k_GREATEST_UPTO) pNil)))))) (sRet (mc (.bl false))) sSkip)
 (sSet 1 (mBin opAdd (mv 2) (mc (.int 1))))))
 (sRet (mc (.bl true)))))
noncomputable def f_are_uptos:List AV->S->R AV:=fnR 3 b_are_uptos
noncomputable def b_is_rates:Ms:=
 (sSeq (sIf (cOr (cNot (cT (mUn (opIsi "tuple") (mv 0)))) (cNot (cB (mChain opLe opLe (mc k_LEAST_RATES) (mOp opLen (pCons (mv 0) pNil)) (mc k_MOST_RATES))))) (sRet (mc (.bl false))) sSkip)
 (sSeq (sIf (cNot (cT (gOp qAll (lComp [("rate",none)] (srcV' (mv 0)) (gN 0) cYes (mAnd (mCall 2 f_is_tuple_of (pCons (mv 0) (pCons (mc (.int 2)) pNil))) (mCall 1 f_is_part (pCons (mBin opIx (mv 0) (mc (.int 1))) pNil))))))) (sRet (mc (.bl false))) sSkip)
 (sRet (mAnd (mBin opIsN (mBin opIx (mBin opIx (mv 0) (mUn opNeg (mc (.int 1)))) (mc (.int 0))) (mc .non)) (gcE (mCall 1 f_are_uptos (pCons (mNew (lComp [("upto",none),("part",none)] (srcV' (mSl (mv 0) oN (oS (mUn opNeg (mc (.int 1)))))) (gT 2 (gCons' (gN 0) (gCons' (gN 1) gNil'))) cYes (mv 0))) pNil)))))))
noncomputable def f_is_rates:List AV->S->R AV:=fnR 1 b_is_rates
noncomputable def b_is_row:Ms:=
 (sSeq (sIf (cNot (cT (mCall 2 f_is_tuple_of (pCons (mv 0) (pCons (mc (.int 3)) pNil))))) (sRet (mc (.bl false))) sSkip)
 (sSeq (sAsg (mv 0) (gT 3 (gCons' (gN 1) (gCons' (gN 2) (gCons' (gN 3) gNil')))))
 (sSeq (sIf (cNot (cT (mCall 1 f_is_name (pCons (mv 2) pNil)))) (sRet (mc (.bl false))) sSkip)
 (sSeq (sIf (cOr (cB (mBin opEqT (mv 1) (mc (.str "of")))) (cB (mBin opEqT (mv 1) (mc (.str "left"))))) (sRet (mCall 1 f_is_part (pCons (mv 3) pNil))) sSkip)
 (sSeq (sIf (cB (mBin opEqT (mv 1) (mc (.str "steps")))) (sRet (gcE (mCall 1 f_is_rates (pCons (mv 3) pNil)))) sSkip)
 (sRet (mAnd (mBin opEqT (mv 1) (mc (.str "length"))) (mCall 3 f_is_number_from (pCons (mv 3) (pCons (mc (.int 1)) (pCons (mc k_GREATEST_LENGTH) pNil)))))))))))
noncomputable def f_is_row:List AV->S->R AV:=fnR 4 b_is_row
noncomputable def b_is_rows:Ms:=
 (sSeq (sIf (cOr (cNot (cT (mUn (opIsi "tuple") (mv 0)))) (cB (mBin opGt (mOp opLen (pCons (mv 0) pNil)) (mc k_MOST_ROWS)))) (sRet (mc (.bl false))) sSkip)
 (sSeq (sIf (cNot (cT (gOp qAll (lComp [("row",none)] (srcV' (mv 0)) (gN 0) cYes (gcE (mCall 1 f_is_row (pCons (mv 0) pNil))))))) (sRet (mc (.bl false))) sSkip)
 (sRet (mBin opLe (gOp qLen (lComp [("row",none)] (srcV' (mv 0)) (gN 0) (cB (mBin opEq (mBin opIx (mv 0) (mc (.int 0))) (mc (.str "left")))) (mv 0))) (mc k_MOST_LEFT_ROWS)))))
noncomputable def f_is_rows:List AV->S->R AV:=fnR 1 b_is_rows
noncomputable def b__law_any_name06:Ms:=
 (sSeq (sSet 1 (mc (.str "abcdefghijklmnopqrstuvwxyz")))
 (sRet (gcM (mMet "str" opJoin (mc (.str "")) (pCons (mNew (lComp [("_law_k",none),("_law_letters",some 1),("_law_state",some 0)] (srcR (pCons (mBin opAdd (mc (.int 1)) (mCall 2 f__law_take (pCons (mv 0) (pCons (mc (.int 8)) pNil)))) pNil)) (gN 0) cYes (mBin opIx (mv 1) (mCall 2 f__law_take (pCons (mv 2) (pCons (mc (.int 26)) pNil)))))) pNil)))))
noncomputable def f__law_any_name06:List AV->S->R AV:=fnR 2 b__law_any_name06
noncomputable def b__law_names06:Ms:=
 (sSeq (sSet 2 (mNew (gMet "str" opSplit (mc (.str "b aa zebra c quartzes ab m knows d mm likes z ba abcdefgh y zz e x f g hh jj kk pave")) (pCons (mc (.str " ")) pNil))))
 (sSeq (sSet 3 (mNew (lLst pNil)))
 (sSeq (sFor (srcR (pCons (mv 1) pNil)) (gN 4) (sSeq (sPar 5 6 (pCons (mMet "list" opPop (mv 2) (pCons (mCall 2 f__law_take (pCons (mv 0) (pCons (mOp opLen (pCons (mv 2) pNil)) pNil))) pNil)) (pCons (mCall 1 f__law_any_name06 (pCons (mv 0) pNil)) pNil)))
 (sExpr (mMet "list" opAppend (mv 3) (pCons (mIf (cAnd (cB (mBin opEq (mCall 2 f__law_take (pCons (mv 0) (pCons (mc (.int 2)) pNil))) (mc (.int 0)))) (cB (mBin opNin (mv 6) (mBin opAdd (mv 3) (mv 2))))) (mv 6) (mv 5)) pNil)))))
 (sRet (mv 3)))))
noncomputable def f__law_names06:List AV->S->R AV:=fnR 7 b__law_names06
noncomputable def b__law_row06:Ms:=
 (sSeq (sSet 3 (mCall 2 f__law_take (pCons (mv 0) (pCons (mc (.int 8)) pNil))))
 (sSeq (sIf (cB (mBin opGt (mv 3) (mc (.int 5)))) (sRet (mTup (pCons (mTup (pCons (mc (.str "length")) (pCons (mv 1) (pCons (mBin opAdd (mc (.int 1)) (mCall 2 f__law_take (pCons (mv 0) (pCons (gcM (mBin opIx (mNew (lLst (pCons (mc (.int 5)) (pCons (mc (.int 1000)) pNil)))) (mCall 2 f__law_take (pCons (mv 0) (pCons (mc (.int 2)) pNil))))) pNil)))) pNil)))) (pCons (mc (.int 0)) pNil)))) sSkip)
 (sSeq (sIf (cOr (cB (mBin opGt (mv 3) (mc (.int 3)))) (cB (mBin opEq (mv 2) (mc (.int 0))))) (sRet (mTup (pCons (mTup (pCons (mc (.str "left")) (pCons (mv 1) (pCons (mCall 1 f__law_part (pCons (mv 0) pNil)) pNil)))) (pCons (mc (.int 0)) pNil)))) sSkip)
 (sSeq (sSet 4 (mBin opAdd (mc (.int 1)) (mCall 2 f__law_take (pCons (mv 0) (pCons (mOp opMin (pCons (mv 2) (pCons (gcM (mBin opIx (mNew (lLst (pCons (mc (.int 12)) (pCons (mc (.int 60)) pNil)))) (mBin opFdiv (mCall 2 f__law_take (pCons (mv 0) (pCons (mc (.int 3)) pNil))) (mc (.int 2))))) pNil))) pNil)))))
 (sSeq (sIf (cB (mBin opGt (mv 3) (mc (.int 1)))) (sRet (mTup (pCons (mTup (pCons (mc (.str "of")) (pCons (mv 1) (pCons (mCall 2 f__law_lowest (pCons (mv 4) (pCons (mc (.int 60)) pNil))) pNil)))) (pCons (mv 4) pNil)))) sSkip)
 (sSeq (sSet 5 (mNew (lLst pNil)))
 (sSeq (sSet 6 (mc (.int 0)))
 (sSeq (sFor (srcR (pCons (mBin opAdd (mc (.int 1)) (mCall 2 f__law_take (pCons (mv 0) (pCons (mc (.int 3)) pNil)))) pNil)) (gN 7) (sSeq (sSet 6 (mBin opAdd (mBin opAdd (mv 6) (mc (.int 1))) (mCall 2 f__law_take (pCons (mv 0) (pCons (gcM (mBin opIx (mNew (lLst (pCons (mc (.int 3)) (pCons (mc (.int 9)) pNil)))) (mCall 2 f__law_take (pCons (mv 0) (pCons (mc (.int 2)) pNil))))) pNil)))))
 (sExpr (mMet "list" opAppend (mv 5) (pCons (mTup (pCons (mv 6) (pCons (mCall 2 f__law_lowest (pCons (mBin opAdd (mc (.int 1)) (mCall 2 f__law_take (pCons (mv 0) (pCons (mv 4) pNil)))) (pCons (mc (.int 60)) pNil))) pNil))) pNil)))))
 (sSeq (sExpr (mMet "list" opAppend (mv 5) (pCons (mTup (pCons (mc .non) (pCons (mCall 2 f__law_lowest (pCons (mBin opAdd (mc (.int 1)) (mCall 2 f__law_take (pCons (mv 0) (pCons (mv 4) pNil)))) (pCons (mc (.int 60)) pNil))) pNil))) pNil)))
 (sRet (mTup (pCons (mTup (pCons (mc (.str "steps")) (pCons (mv 1) (pCons (gOp qTuple (lIts (mv 5))) pNil)))) (pCons (mv 4) pNil)))))))))))))
noncomputable def f__law_row06:List AV->S->R AV:=fnR 8 b__law_row06
noncomputable def b__law_rows06:Ms:=
 (sSeq (sSet 3 (mc (.int 60)))
 (sSeq (sSet 4 (mNew (lLst pNil)))
 (sSeq (sFor (srcR (pCons (mBin opMul (mv 2) (mOp opInt (pCons (gcE (mBin opNe (mv 1) (mNew (lLst pNil)))) pNil))) pNil)) (gN 5) (sSeq (sAsg (mCall 3 f__law_row06 (pCons (mv 0) (pCons (mBin opIx (mv 1) (mCall 2 f__law_take (pCons (mv 0) (pCons (mOp opLen (pCons (mv 1) pNil)) pNil)))) (pCons (mv 3) pNil)))) (gT 2 (gCons' (gN 6) (gCons' (gN 7) gNil'))))
 (sSeq (sSet 3 (mBin opSub (mv 3) (mv 7)))
 (sIf (cOr (cB (mBin opNe (mBin opIx (mv 6) (mc (.int 0))) (mc (.str "left")))) (cB (mBin opLt (gcE (mMet "list" opCount (mNew (lComp [("_law_one",none)] (srcV' (mv 4)) (gN 0) cYes (mBin opIx (mv 0) (mc (.int 0))))) (pCons (mc (.str "left")) pNil))) (mc (.int 3))))) (sExpr (mMet "list" opAppend (mv 4) (pCons (mv 6) pNil))) sSkip))))
 (sRet (gOp qTuple (lIts (mv 4)))))))
noncomputable def f__law_rows06:List AV->S->R AV:=fnR 8 b__law_rows06
noncomputable def b__law_some_rows06:Ms:=
 (sSeq (sSet 1 (gcM (mBin opIx (mNew (lLst (pCons (mCall 2 f__law_take (pCons (mv 0) (pCons (mc (.int 5)) pNil))) (pCons (mCall 2 f__law_take (pCons (mv 0) (pCons (mc (.int 9)) pNil))) pNil)))) (mOp opInt (pCons (mBin opEq (mCall 2 f__law_take (pCons (mv 0) (pCons (mc (.int 6)) pNil))) (mc (.int 0))) pNil)))))
 (sRet (gcM (mCall 3 f__law_rows06 (pCons (mv 0) (pCons (mNew (lTake (mCall 2 f__law_names06 (pCons (mv 0) (pCons (mBin opAdd (mc (.int 1)) (mCall 2 f__law_take (pCons (mv 0) (pCons (mc (.int 5)) pNil)))) pNil))))) (pCons (mv 1) pNil)))))))
noncomputable def f__law_some_rows06:List AV->S->R AV:=fnR 2 b__law_some_rows06
noncomputable def b__law_whole06:Ms:=
 (sRet (mAnd (mUn (opIsi "int") (mv 0)) (mAnd (mUn opNot (mUn (opIsi "bool") (mv 0))) (mChain opLe opLe (mv 1) (mv 0) (mv 2)))))
noncomputable def f__law_whole06:List AV->S->R AV:=fnR 3 b__law_whole06
noncomputable def b__law_is_part:Ms:=
 (sSeq (sIf (cOr (cNot (cT (mUn (opIsi "tuple") (mv 0)))) (cOr (cB (mBin opNe (mOp opLen (pCons (mv 0) pNil)) (mc (.int 2)))) (cNot (cT (mCall 3 f__law_whole06 (pCons (mBin opIx (mv 0) (mc (.int 0))) (pCons (mc (.int 1)) (pCons (mc (.int 60)) pNil)))))))) (sRet (mc (.bl false))) sSkip)
 (sRet (mAnd (mCall 3 f__law_whole06 (pCons (mBin opIx (mv 0) (mc (.int 1))) (pCons (mBin opIx (mv 0) (mc (.int 0))) (pCons (mc (.int 60)) pNil)))) (mBin opEq (mCall 2 f__law_lowest (pCons (mBin opIx (mv 0) (mc (.int 0))) (pCons (mBin opIx (mv 0) (mc (.int 1))) pNil))) (mv 0)))))
noncomputable def f__law_is_part:List AV->S->R AV:=fnR 1 b__law_is_part
noncomputable def b__law_are_rates:Ms:=
 (sSeq (sIf (cOr (cNot (cT (mUn (opIsi "tuple") (mv 0)))) (cB (mBin opNin (mOp opLen (pCons (mv 0) pNil)) (mTup (pCons (mc (.int 2)) (pCons (mc (.int 3)) (pCons (mc (.int 4)) pNil))))))) (sRet (mc (.bl false))) sSkip)
 (sSeq (sIf (cNot (cT (gOp qAll (lComp [("_law_rate",none)] (srcV' (mv 0)) (gN 0) cYes (mAnd (mUn (opIsi "tuple") (mv 0)) (mAnd (mBin opEq (mOp opLen (pCons (mv 0) pNil)) (mc (.int 2))) (mCall 1 f__law_is_part (pCons (mBin opIx (mv 0) (mc (.int 1))) pNil)))))))) (sRet (mc (.bl false))) sSkip)
 (sSeq (sSet 1 (mNew (lComp [("_law_rate",none)] (srcV' (mv 0)) (gN 0) cYes (mBin opIx (mv 0) (mc (.int 0))))))
 (sSeq (sIf (cOr (cB (mBin opIsntN (mBin opIx (mv 1) (mUn opNeg (mc (.int 1)))) (mc .non))) (cNot (cT (gOp qAll (lComp [("_law_upto",none)] (srcV' (mSl (mv 1) oN (oS (mUn opNeg (mc (.int 1)))))) (gN 0) cYes (mCall 3 f__law_whole06 (pCons (mv 0) (pCons (mc (.int 1)) (pCons (mBin opPow (mc (.int 10)) (mc (.int 6))) pNil))))))))) (sRet (mc (.bl false))) sSkip)
 (sRet (gOp qAll (lComp [("_law_one",none),("_law_other",none)] (srcZ (mv 1) (mSl (mv 1) (oS (mc (.int 1))) (oS (mUn opNeg (mc (.int 1)))))) (gT 2 (gCons' (gN 0) (gCons' (gN 1) gNil'))) cYes (mBin opLt (mv 0) (mv 1)))))))))
noncomputable def f__law_are_rates:List AV->S->R AV:=fnR 2 b__law_are_rates
noncomputable def b__law_is_row06:Ms:=
 (sSeq (sIf (cOr (cNot (cT (mUn (opIsi "tuple") (mv 0)))) (cB (mBin opNe (mOp opLen (pCons (mv 0) pNil)) (mc (.int 3))))) (sRet (mc (.bl false))) sSkip)
 (sSeq (sIf (cOr (cNot (cT (mUn (opIsi "str") (mBin opIx (mv 0) (mc (.int 0)))))) (cNot (cT (mUn (opIsi "str") (mBin opIx (mv 0) (mc (.int 1))))))) (sRet (mc (.bl false))) sSkip)
 (sSeq (sIf (cOr (cB (mNinR (mOp opLen (pCons (mBin opIx (mv 0) (mc (.int 1))) pNil)) 1 9)) (cNot (cT (gOp qAll (lComp [("_law_sign",none)] (srcS (mBin opIx (mv 0) (mc (.int 1)))) (gN 0) cYes (mBin opInS (mv 0) (mc (.str "abcdefghijklmnopqrstuvwxyz")))))))) (sRet (mc (.bl false))) sSkip)
 (sSeq (sIf (cB (mBin opEq (mBin opIx (mv 0) (mc (.int 0))) (mc (.str "length")))) (sRet (mCall 3 f__law_whole06 (pCons (mBin opIx (mv 0) (mc (.int 2))) (pCons (mc (.int 1)) (pCons (mc (.int 1000)) pNil))))) sSkip)
 (sSeq (sIf (cB (mBin opEq (mBin opIx (mv 0) (mc (.int 0))) (mc (.str "steps")))) (sRet (gcE (mCall 1 f__law_are_rates (pCons (mBin opIx (mv 0) (mc (.int 2))) pNil)))) sSkip)
 (sRet (mAnd (mBin opIn (mBin opIx (mv 0) (mc (.int 0))) (mTup (pCons (mc (.str "of")) (pCons (mc (.str "left")) pNil)))) (mCall 1 f__law_is_part (pCons (mBin opIx (mv 0) (mc (.int 2))) pNil)))))))))
noncomputable def f__law_is_row06:List AV->S->R AV:=fnR 1 b__law_is_row06
noncomputable def b__law_due:Ms:=
 (sSeq (sIf (cOr (cNot (cT (mUn (opIsi "tuple") (mv 0)))) (cOr (cB (mBin opGt (mOp opLen (pCons (mv 0) pNil)) (mc (.int 8)))) (cNot (cT (gOp qAll (lComp [("_law_row_here",none)] (srcV' (mv 0)) (gN 0) cYes (gcE (mCall 1 f__law_is_row06 (pCons (mv 0) pNil))))))))) (sRet (mc (.bl false))) sSkip)
 (sRet (mBin opLt (gOp qLen (lComp [("_law_row_here",none)] (srcV' (mv 0)) (gN 0) (cB (mBin opEq (mBin opIx (mv 0) (mc (.int 0))) (mc (.str "left")))) (mv 0))) (mc (.int 4)))))
noncomputable def f__law_due:List AV->S->R AV:=fnR 1 b__law_due
noncomputable def b__law_odd06:Ms:=
 (sSeq (sSet 1 (mNew (lLst (pCons (mc .non) (pCons (mc (.bl true)) (pCons (mc (.bl false)) (pCons (mc (.int 0)) (pCons (mc (.int 1)) (pCons (mUn opNeg (mc (.int 1))) (pCons (mc (.int 61)) (pCons (mc (.int 1001)) (pCons (mBin opAdd (mBin opPow (mc (.int 10)) (mc (.int 6))) (mc (.int 1))) (pCons (mBin opPow (mc (.int 10)) (mc (.int 20))) (pCons (mc (.str "")) (pCons (mc (.str "a")) (pCons (mc (.str "A")) (pCons (mc (.str "a b")) (pCons (mc (.str "abcdefghi")) (pCons (mc (.str "of")) (pCons (mTup pNil) pNil))))))))))))))))))))
 (sSeq (sSet 1 (mBin opAdd (mv 1) (mNew (lLst (pCons (mTup (pCons (mc (.int 1)) (pCons (mc (.int 2)) pNil))) (pCons (mNew (lLst (pCons (mc (.int 1)) (pCons (mc (.int 2)) pNil)))) (pCons (mTup (pCons (mc (.int 2)) (pCons (mc (.int 4)) pNil))) (pCons (mTup (pCons (mc (.int 0)) (pCons (mc (.int 1)) pNil))) (pCons (mTup (pCons (mc (.int 1)) (pCons (mc (.int 1)) pNil))) (pCons (mTup (pCons (mc (.int 3)) (pCons (mc (.int 2)) pNil))) (pCons (mTup (pCons (mc (.int 1)) (pCons (mc (.int 61)) pNil))) (pCons (mTup (pCons (mc (.int 60)) (pCons (mc (.int 60)) pNil))) (pCons (mTup (pCons (mc (.bl true)) (pCons (mc (.int 1)) pNil))) (pCons (mTup (pCons (mc (.int 1)) (pCons (mc (.bl true)) pNil))) (pCons (mTup (pCons (mc (.int 1)) (pCons (mc (.int 2)) (pCons (mc (.int 3)) pNil)))) pNil)))))))))))))))
 (sSeq (sSet 1 (mBin opAdd (mv 1) (mNew (lLst (pCons (mTup (pCons (mc (.str "of")) (pCons (mc (.str "a")) (pCons (mTup (pCons (mc (.int 1)) (pCons (mc (.int 2)) pNil))) pNil)))) (pCons (mNew (lLst (pCons (mc (.str "of")) (pCons (mc (.str "a")) (pCons (mTup (pCons (mc (.int 1)) (pCons (mc (.int 2)) pNil))) pNil))))) (pCons mD0 (pCons (mDisp [((mc (.str "of")),(mc (.int 1)))]) (pCons (mTup (pCons (mTup (pCons (mc (.int 3)) (pCons (mTup (pCons (mc (.int 1)) (pCons (mc (.int 2)) pNil))) pNil))) (pCons (mTup (pCons (mc .non) (pCons (mTup (pCons (mc (.int 1)) (pCons (mc (.int 2)) pNil))) pNil))) pNil))) (pCons (mNew (lLst (pCons (mNew (lLst pNil)) pNil))) pNil))))))))))
 (sSeq (sSet 1 (mBin opAdd (mv 1) (mNew (lLst (pCons (mTup (pCons (mc (.str "1")) (pCons (mc (.int 2)) pNil))) (pCons (mTup (pCons (mc .non) (pCons (mc (.int 2)) pNil))) (pCons (mTup (pCons (mc (.int 1)) (pCons (mc (.str "2")) pNil))) (pCons (mTup (pCons (mc (.int 1)) (pCons (mc .non) pNil))) (pCons (mTup (pCons (mNew (lLst (pCons (mc (.int 1)) pNil))) (pCons (mc (.int 2)) pNil))) (pCons (mTup (pCons (mTup (pCons (mc (.int 1)) pNil)) (pCons (mc (.int 2)) pNil))) (pCons (mTup (pCons (mc (.int 1)) (pCons (mNew (lLst (pCons (mc (.int 2)) pNil))) pNil))) pNil)))))))))))
 (sRet (mBin opIx (mv 1) (mCall 2 f__law_take (pCons (mv 0) (pCons (mOp opLen (pCons (mv 1) pNil)) pNil)))))))))
noncomputable def f__law_odd06:List AV->S->R AV:=fnR 2 b__law_odd06
noncomputable def b__law_bent_rates:Ms:=
 (sSeq (sSet 2 (mCall 2 f__law_take (pCons (mv 0) (pCons (mOp opLen (pCons (mv 1) pNil)) pNil))))
 (sSeq (sAsg (mBin opIx (mv 1) (mv 2)) (gT 2 (gCons' (gN 4) (gCons' (gN 5) gNil'))))
 (sSeq (sSet 3 (mNew (lLst (pCons (mRevT (mv 1) (mUn opNeg (mc (.int 1)))) (pCons (mSl (mv 1) (oS (mc (.int 1))) oN) (pCons (mBin opAddT (mv 1) (mSl (mv 1) (oS (mUn opNeg (mc (.int 1)))) oN)) (pCons (mNew (gOp qList (lIts (mv 1)))) (pCons (mBin opAddT (mBin opAddT (mSl (mv 1) oN (oS (mv 2))) (mTup (pCons (mNew (gOp qList (lIts (mBin opIx (mv 1) (mv 2))))) pNil))) (mSl (mv 1) (oS (mBin opAddT (mv 2) (mc (.int 1)))) oN)) pNil))))))))
 (sSeq (sSet 3 (mBin opAddT (mv 3) (mNew (lLst (pCons (mBin opAddT (mBin opAddT (mSl (mv 1) oN (oS (mv 2))) (mTup (pCons (mTup (pCons (mCall 1 f__law_odd06 (pCons (mv 0) pNil)) (pCons (mv 5) pNil))) pNil))) (mSl (mv 1) (oS (mBin opAddT (mv 2) (mc (.int 1)))) oN)) (pCons (mBin opAddT (mBin opAddT (mSl (mv 1) oN (oS (mv 2))) (mSl (mv 1) (oS (mv 2)) (oS (mBin opAddT (mv 2) (mc (.int 1)))))) (mSl (mv 1) (oS (mv 2)) oN)) pNil))))))
 (sSeq (sSet 3 (mBin opAddT (mv 3) (mNew (lLst (pCons (mBin opAddT (mBin opAddT (mSl (mv 1) oN (oS (mv 2))) (mTup (pCons (mTup (pCons (mv 4) (pCons (mCall 1 f__law_odd06 (pCons (mv 0) pNil)) pNil))) pNil))) (mSl (mv 1) (oS (mBin opAddT (mv 2) (mc (.int 1)))) oN)) (pCons (mBin opAddT (mSl (mv 1) oN (oS (mUn opNeg (mc (.int 1))))) (mTup (pCons (mTup (pCons (mBin opPow (mc (.int 10)) (mc (.int 6))) (pCons (mBin opIx (mBin opIx (mv 1) (mUn opNeg (mc (.int 1)))) (mc (.int 1))) pNil))) pNil))) pNil))))))
 (sRet (mBin opIx (mBin opAddT (mv 3) (mNew (lLst (pCons (mBin opAddT (mBin opAddT (mSl (mv 1) oN (oS (mv 2))) (mTup (pCons (mTup (pCons (mBin opPow (mc (.int 10)) (mc (.int 6))) (pCons (mv 5) pNil))) pNil))) (mSl (mv 1) (oS (mBin opAddT (mv 2) (mc (.int 1)))) oN)) (pCons (mSl (mv 1) oN (oS (mc (.int 1)))) (pCons (mSl (mv 1) (oS (mUn opNeg (mc (.int 1)))) oN) pNil)))))) (mCall 2 f__law_take (pCons (mv 0) (pCons (mc (.int 12)) pNil))))))))))
noncomputable def f__law_bent_rates:List AV->S->R AV:=fnR 6 b__law_bent_rates
noncomputable def b__law_signed:Ms:=
 (sSeq (sSet 2 (mc (.str " !#$&'()*+,-./0123456789:;<=>?@ABCDEFGHIJKLMNOPQRSTUVWXYZ[]^_abcdefghijklmnopqrstuvwxyz{|}~")))
 (sSeq (sSet 3 (mCall 2 f__law_take (pCons (mv 0) (pCons (mBin opAdd (mOp opLen (pCons (mv 1) pNil)) (mc (.int 1))) pNil))))
 (sRet (mBin opAdd (mBin opAdd (mSlS (mv 1) oN (oS (mv 3))) (mBin opIx (mv 2) (mCall 2 f__law_take (pCons (mv 0) (pCons (mOp opLen (pCons (mv 2) pNil)) pNil))))) (mSlS (mv 1) (oS (mBin opAdd (mv 3) (mCall 2 f__law_take (pCons (mv 0) (pCons (mc (.int 2)) pNil))))) oN)))))
noncomputable def f__law_signed:List AV->S->R AV:=fnR 4 b__law_signed
noncomputable def b__law_bent_row:Ms:=
 (sSeq (sAsg (mv 1) (gT 3 (gCons' (gN 4) (gCons' (gN 5) (gCons' (gN 6) gNil')))))
 (sSeq (sIf (cB (mBin opEq (mCall 2 f__law_take (pCons (mv 0) (pCons (mc (.int 6)) pNil))) (mc (.int 0)))) (sRet (mTup (pCons (mv 4) (pCons (mCall 2 f__law_signed (pCons (mv 0) (pCons (mv 5) pNil))) (pCons (mv 6) pNil))))) sSkip)
 (sSeq (sIf (cAnd (cB (mBin opEq (mv 4) (mc (.str "steps")))) (cB (mBin opEq (mCall 2 f__law_take (pCons (mv 0) (pCons (mc (.int 2)) pNil))) (mc (.int 0))))) (sRet (mTup (pCons (mv 4) (pCons (mv 5) (pCons (mCall 2 f__law_bent_rates (pCons (mv 0) (pCons (mv 6) pNil))) pNil))))) sSkip)
 (sSeq (sSet 2 (mNew (lLst (pCons (mc (.str "of")) (pCons (mc (.str "left")) (pCons (mc (.str "steps")) (pCons (mc (.str "length")) (pCons (mc (.str "Of")) (pCons (mc (.str "")) (pCons (mc .non) pNil))))))))))
 (sSeq (sSet 3 (mNew (lLst (pCons (mTup (pCons (mBin opIx (mv 2) (mCall 2 f__law_take (pCons (mv 0) (pCons (mc (.int 7)) pNil)))) (pCons (mv 5) (pCons (mv 6) pNil)))) (pCons (mTup (pCons (mv 4) (pCons (mCall 1 f__law_odd06 (pCons (mv 0) pNil)) (pCons (mv 6) pNil)))) (pCons (mTup (pCons (mv 4) (pCons (mv 5) (pCons (mCall 1 f__law_odd06 (pCons (mv 0) pNil)) pNil)))) pNil))))))
 (sSeq (sSet 3 (mBin opAddT (mv 3) (mNew (lLst (pCons (mNew (gOp qList (lIts (mv 1)))) (pCons (mSl (mv 1) oN (oS (mc (.int 2)))) (pCons (mBin opAddT (mv 1) (mTup (pCons (mc (.int 1)) pNil))) (pCons (mTup (pCons (mv 4) (pCons (mBin opAddT (mv 5) (mc (.str "x"))) (pCons (mv 6) pNil)))) (pCons (mTup (pCons (mv 4) (pCons (mv 6) (pCons (mv 5) pNil)))) pNil)))))))))
 (sRet (mBin opIx (mBin opAddT (mv 3) (mNew (lLst (pCons (mBin opAddT (mTup (pCons (mCall 1 f__law_odd06 (pCons (mv 0) pNil)) pNil)) (mSl (mv 1) (oS (mc (.int 1))) oN)) pNil)))) (mCall 2 f__law_take (pCons (mv 0) (pCons (mc (.int 9)) pNil)))))))))))
noncomputable def f__law_bent_row:List AV->S->R AV:=fnR 7 b__law_bent_row
noncomputable def b__law_bent:Ms:=
 (sSeq (sSet 2 (mCall 2 f__law_take (pCons (mv 0) (pCons (mBin opAddT (mOp opLen (pCons (mv 1) pNil)) (mc (.int 1))) pNil))))
 (sSeq (sSet 3 (mTup (pCons (mc (.str "left")) (pCons (mc (.str "a")) (pCons (mTup (pCons (mc (.int 1)) (pCons (mc (.int 2)) pNil))) pNil)))))
 (sSeq (sSet 4 (mNew (lLst (pCons (mNew (gOp qList (lIts (mv 1)))) (pCons (mBin opAddT (mSl (mv 1) oN (oS (mv 2))) (mSl (mv 1) (oS (mBin opAddT (mv 2) (mc (.int 1)))) oN)) (pCons (mBin opAddT (mBin opAddT (mSl (mv 1) oN (oS (mv 2))) (mSl (mv 1) (oS (mv 2)) (oS (mBin opAddT (mv 2) (mc (.int 1)))))) (mSl (mv 1) (oS (mv 2)) oN)) (pCons (mBin opAddT (mv 1) (mBin opMulT (mTup (pCons (mv 3) pNil)) (mc (.int 3)))) pNil)))))))
 (sSeq (sSet 4 (mBin opAddT (mv 4) (mNew (lLst (pCons (mSl (mBin opAddT (mv 1) (mBin opMulT (mTup (pCons (mTup (pCons (mc (.str "of")) (pCons (mc (.str "ab")) (pCons (mTup (pCons (mc (.int 1)) (pCons (mc (.int 60)) pNil))) pNil)))) pNil)) (mc (.int 9)))) oN (oS (mBin opAddT (mc (.int 8)) (mCall 2 f__law_take (pCons (mv 0) (pCons (mc (.int 2)) pNil)))))) (pCons (mCall 1 f__law_odd06 (pCons (mv 0) pNil)) pNil))))))
 (sSeq (sSet 4 (mBin opAddT (mv 4) (mNew (lLst (pCons (mBin opAddT (mBin opAddT (mSl (mv 1) oN (oS (mv 2))) (mTup (pCons (mCall 1 f__law_odd06 (pCons (mv 0) pNil)) pNil))) (mSl (mv 1) (oS (mBin opAddT (mv 2) (mc (.int 1)))) oN)) (pCons (mBin opAddT (mBin opMulT (mTup (pCons (mv 3) pNil)) (mBin opAddT (mc (.int 3)) (mCall 2 f__law_take (pCons (mv 0) (pCons (mc (.int 2)) pNil))))) (mSl (mv 1) oN (oS (mv 2)))) pNil))))))
 (sSeq (sSet 5 (mCall 2 f__law_take (pCons (mv 0) (pCons (mc (.int 16)) pNil))))
 (sSeq (sIf (cAnd (cB (mBin opGt (mv 5) (mc (.int 7)))) (cB (mBin opLt (mv 2) (mOp opLen (pCons (mv 1) pNil))))) (sRet (mBin opAddT (mBin opAddT (mSl (mv 1) oN (oS (mv 2))) (mTup (pCons (mCall 2 f__law_bent_row (pCons (mv 0) (pCons (mBin opIx (mv 1) (mv 2)) pNil))) pNil))) (mSl (mv 1) (oS (mBin opAddT (mv 2) (mc (.int 1)))) oN))) sSkip)
 (sRet (mBin opIx (mv 4) (mBin opMod (mv 5) (mc (.int 8))))))))))))
noncomputable def f__law_bent:List AV->S->R AV:=fnR 6 b__law_bent
noncomputable def b_law06:Ms:=
 (sSeq (sSet 1 (mCall 1 f__law_begin (pCons (mv 0) pNil)))
 (sSeq (sFor (srcR (pCons (mc (.int 4)) pNil)) (gN 2) (sSeq (sSet 3 (mCall 1 f__law_some_rows06 (pCons (mv 1) pNil)))
 (sSeq (sIf (cOr (cB (mBin opIsntN (gcE (mCall 1 f_is_rows (pCons (mv 3) pNil))) (mc (.bl true)))) (cB (mBin opIsntN (gcE (mCall 1 f_is_rows (pCons (mTup pNil) pNil))) (mc (.bl true))))) (sRet (mc (.bl false))) sSkip)
 (sFor (srcR (pCons (mc (.int 10)) pNil)) (gN 4) (sSeq (sSet 5 (mCall 2 f__law_bent (pCons (mv 1) (pCons (mv 3) pNil))))
 (sSeq (sSet 6 (mOp opStrD (pCons (mv 5) pNil)))
 (sSeq (sSet 7 (gcE (mCall 1 f_is_rows (pCons (mv 5) pNil))))
 (sIf (cOr (cNot (cT (mUn (opIsi "bool") (mv 7)))) (cOr (cB (mBin opNe (mv 7) (gcE (mCall 1 f__law_due (pCons (mv 5) pNil))))) (cB (mBin opNe (mOp opStrD (pCons (mv 5) pNil)) (mv 6))))) (sRet (mc (.bl false))) sSkip))))))))
 (sRet (mc (.bl true)))))
noncomputable def f_law06:List AV->S->R AV:=fnR 8 b_law06
def top (i:Nat):Stmt:=PySem.Challenge.pw_royaltree_k06_what_rows_are.main.body.getD i (.Pass ⟨0,0,0,0⟩)
set_option hygiene false in
local macro_rules | `(tactic| walk_at "q") => `(tactic| first
 | ((with_reducible show PE _ _ (tE _ _ (mv _)));exact me_v (pv _))
 | ((with_reducible show PA _ (_ :: _) _); refine pa_cons' ?_ ?_ <;> walk_at "q")
 | ((with_reducible exact pa_nil'))
 | ((with_reducible exact me_int))
 | ((with_reducible exact me_str))
 | ((with_reducible exact me_non))
 | ((with_reducible exact me_bl))
 | ((with_reducible show(_:Nat)<=_);first|decide|omega)
 | ((with_reducible show PE _ _ (tE _ _ (mc _)));exact me_kst (by with_reducible assumption:Kst T mg _ _))
 | ((with_reducible show PE _ _ (tE _ _ (mBin opAdd _ _))); refine me_bin (oAdd rfl) ?_ ?_ <;> walk_at "q")
 | ((with_reducible show PE _ _ (tE _ _ (mBin opSub _ _))); refine me_bin (oSub) ?_ ?_ <;> walk_at "q")
 | ((with_reducible show PE _ _ (tE _ _ (mBin opMul _ _))); refine me_bin (oMul) ?_ ?_ <;> walk_at "q")
 | ((with_reducible show PE _ _ (tE _ _ (mBin opFdiv _ _))); refine me_bin (oFdiv) ?_ ?_ <;> walk_at "q")
 | ((with_reducible show PE _ _ (tE _ _ (mBin opMod _ _))); refine me_bin (oMod) ?_ ?_ <;> walk_at "q")
 | ((with_reducible show PE _ _ (tE _ _ (mBin opPow _ _))); refine me_bin (oPow) ?_ ?_ <;> walk_at "q")
 | ((with_reducible show PE _ _ (tE _ _ (mCall _ _ _))); refine me_F (by with_reducible assumption : Fk P w T mg base _ _ _ _) (hr.mono ?_) ?_ <;> walk_at "q")
 | ((with_reducible show PE _ _ (tE _ _ (mBin opIx _ _))); refine me_ix (oIx rfl) ?_ ?_ <;> walk_at "q")
 | ((with_reducible show PE _ _ (tE _ _ (mBin opDget _ _))); refine me_dget hu1 ?_ ?_ <;> walk_at "q")
 | ((with_reducible show PE _ _ (tE _ _ (mTup _))); refine me_tup ?_ <;> walk_at "q")
 | ((with_reducible show PE _ _ (tE _ _ (mNew _))); refine me_new ?_ <;> walk_at "q")
 | ((with_reducible show PE _ _ (tL _ _ (lLst _))); refine ml_lst ?_ <;> walk_at "q")
 | ((with_reducible show PE _ _ (tE _ _ (mBin opEq _ _))); refine me_cmp (oEq rfl hu) ?_ ?_ <;> walk_at "q")
 | ((with_reducible show PE _ _ (tE _ _ (mBin opNe _ _))); refine me_cmp (oNe rfl hu) ?_ ?_ <;> walk_at "q")
 | ((with_reducible show PE _ _ (tE _ _ (mBin opLt _ _))); refine me_cmp (oLt) ?_ ?_ <;> walk_at "q")
 | ((with_reducible show PE _ _ (tE _ _ (mBin opLe _ _))); refine me_cmp (oLe) ?_ ?_ <;> walk_at "q")
 | ((with_reducible show PE _ _ (tE _ _ (mBin opGt _ _))); refine me_cmp (oGt) ?_ ?_ <;> walk_at "q")
 | ((with_reducible show PE _ _ (tE _ _ (mBin opGe _ _))); refine me_cmp (oGe) ?_ ?_ <;> walk_at "q")
 | ((with_reducible show PE _ _ (tE _ _ (mBin opIsN _ _))); refine me_cmp (oIsN) ?_ ?_ <;> walk_at "q")
 | ((with_reducible show PE _ _ (tE _ _ (mBin opIsntN _ _))); refine me_cmp (oIsntN) ?_ ?_ <;> walk_at "q")
 | ((with_reducible show PE _ _ (tE _ _ (mBin opIn _ _))); refine me_cmp (oIn rfl) ?_ ?_ <;> walk_at "q")
 | ((with_reducible show PE _ _ (tE _ _ (mBin opNin _ _))); refine me_cmp (oNin rfl) ?_ ?_ <;> walk_at "q")
 | ((with_reducible show PT _ _ (tC' _ _ (cB (mBin opEq _ _)))); refine pt_cmp' (oEq rfl hu) ?_ ?_ <;> walk_at "q")
 | ((with_reducible show PT _ _ (tC' _ _ (cB (mBin opNe _ _)))); refine pt_cmp' (oNe rfl hu) ?_ ?_ <;> walk_at "q")
 | ((with_reducible show PT _ _ (tC' _ _ (cB (mBin opLt _ _)))); refine pt_cmp' (oLt) ?_ ?_ <;> walk_at "q")
 | ((with_reducible show PT _ _ (tC' _ _ (cB (mBin opLe _ _)))); refine pt_cmp' (oLe) ?_ ?_ <;> walk_at "q")
 | ((with_reducible show PT _ _ (tC' _ _ (cB (mBin opGt _ _)))); refine pt_cmp' (oGt) ?_ ?_ <;> walk_at "q")
 | ((with_reducible show PT _ _ (tC' _ _ (cB (mBin opGe _ _)))); refine pt_cmp' (oGe) ?_ ?_ <;> walk_at "q")
 | ((with_reducible show PT _ _ (tC' _ _ (cB (mBin opIsN _ _)))); refine pt_cmp' (oIsN) ?_ ?_ <;> walk_at "q")
 | ((with_reducible show PT _ _ (tC' _ _ (cB (mBin opIsntN _ _)))); refine pt_cmp' (oIsntN) ?_ ?_ <;> walk_at "q")
 | ((with_reducible show PT _ _ (tC' _ _ (cB (mBin opIn _ _)))); refine pt_cmp' (oIn rfl) ?_ ?_ <;> walk_at "q")
 | ((with_reducible show PT _ _ (tC' _ _ (cB (mBin opNin _ _)))); refine pt_cmp' (oNin rfl) ?_ ?_ <;> walk_at "q")
 | ((with_reducible show PE _ _ (tE _ _ (mChain opLe opLe _ _ _))); refine me_chain oLe oLe ?_ ?_ ?_ <;> walk_at "q")
 | ((with_reducible show PT _ _ (tC' _ _ (cB (mChain opLe opLe _ _ _)))); refine pt_chain' oLe oLe ?_ ?_ ?_ <;> walk_at "q")
 | ((with_reducible show PE _ _ (tE _ _ (mChain opLeS opLeS _ _ _))); refine me_chain oLeS oLeS ?_ ?_ ?_ <;> walk_at "q")
 | ((with_reducible show PT _ _ (tC' _ _ (cB (mChain opLeS opLeS _ _ _)))); refine pt_chain' oLeS oLeS ?_ ?_ ?_ <;> walk_at "q")
 | ((with_reducible show PE _ _ (tE _ _ (mSlS _ _ _))); refine me_slS ?_ ?_ ?_ <;> walk_at "q")
 | ((with_reducible refine pt_gc ?_) <;> walk_at "q")
 | ((with_reducible refine pt_not' ?_) <;> walk_at "q")
 | ((with_reducible refine PW.pt (pw_and' ?_ ?_)) <;> walk_at "q")
 | ((with_reducible refine PW.pt (pw_or' ?_ ?_)) <;> walk_at "q")
 | ((with_reducible refine pw_and' ?_ ?_) <;> walk_at "q")
 | ((with_reducible refine pw_or' ?_ ?_) <;> walk_at "q")
 | ((with_reducible refine pw_and1' ?_) <;> walk_at "q")
 | ((with_reducible refine pw_or1' ?_) <;> walk_at "q")
 | ((with_reducible show PT _ _ (tC' _ _ (cT _))); refine pt_t rfl ?_ <;> walk_at "q")
 | ((with_reducible refine me_not ?_) <;> walk_at "q")
 | ((with_reducible show PE _ _ (tE _ _ (mUn opNeg _))); refine me_un oNeg ?_ <;> walk_at "q")
 | ((with_reducible refine me_and ?_ ?_) <;> walk_at "q")
 | ((with_reducible refine me_one ?_) <;> walk_at "q")
 | ((with_reducible show PE _ _ (tE _ _ (mIf _ _ _))); refine me_if ?_ ?_ ?_ <;> walk_at "q")
 | ((with_reducible exact me_d0))
 | ((with_reducible show PE _ _ (tE _ _ (mDisp _))); (with_reducible refine me_disp ?hh ?ha ?hb ?hc ?hd); (case ha => rfl); (case hb => rfl); (case hc => exact List.cons_ne_nil _ _); (case hd => decide); walk_at "q")
 | ((with_reducible refine mps_cons ?_ ?_ ?_) <;> walk_at "q")
 | ((with_reducible exact mps_nil))
 | ((with_reducible show PE _ _ (tE _ _ (mSl _ _ _))); refine me_sl rfl ?_ ?_ ?_ <;> walk_at "q")
 | ((with_reducible exact po_none'))
 | ((with_reducible refine po_some' ?_) <;> walk_at "q")
 | ((with_reducible refine me_gc ?_) <;> walk_at "q")
 | ((with_reducible refine me_gcM ?_) <;> walk_at "q")
 | ((with_reducible refine ml_take ?_) <;> walk_at "q")
 | ((with_reducible refine mq_its ?_) <;> walk_at "q")
 | ((with_reducible show PE _ _ (tL _ _ (gMet "str" opSplit _ _))); refine mg_met rfl PySem.F.plainAttrs_str PySem.F.slot_str_split PySem.F.type_str_split dSplit ?_ ?_ <;> walk_at "q")
 | ((with_reducible show PE _ _ (tE _ _ (mMet "list" opAppend _ _))); refine me_met rfl PySem.F.plainAttrs_list PySem.F.slot_list_append PySem.F.type_list_append dAppend ?_ ?_ <;> walk_at "q")
 | ((with_reducible show PE _ _ (tE _ _ (mMet "list" opPop _ _))); refine me_met rfl PySem.F.plainAttrs_list PySem.F.slot_list_pop PySem.F.type_list_pop dPop ?_ ?_ <;> walk_at "q")
 | ((with_reducible show PE _ _ (tE _ _ (mMet "list" opCount _ _))); refine me_met rfl PySem.F.plainAttrs_list PySem.F.slot_list_count PySem.F.type_list_count dCount ?_ ?_ <;> walk_at "q")
 | ((with_reducible show PE _ _ (tE _ _ (mOp opLen _))); refine me_B (cLen rfl) (by with_reducible assumption : mg _ = none) PySem.boot_len ?_ <;> walk_at "q")
 | ((with_reducible show PE _ _ (tE _ _ (mOp opAbs _))); refine me_B (cAbs) (by with_reducible assumption : mg _ = none) Ro.boot_abs ?_ <;> walk_at "q")
 | ((with_reducible show PE _ _ (tE _ _ (mOp opMin _))); refine me_B (cMin rfl) (by with_reducible assumption : mg _ = none) boot_min ?_ <;> walk_at "q")
 | ((with_reducible show PE _ _ (tE _ _ (mOp opDivmod _))); refine me_B (cDivmod) (by with_reducible assumption : mg _ = none) Ro.boot_divmod ?_ <;> walk_at "q")
 | ((with_reducible show PE _ _ (tE _ _ (mOp opInt _))); refine me_T cInt (by with_reducible assumption : mg _ = none) Ro.boot_int ?_ <;> walk_at "q")
 | ((with_reducible show PE _ _ (tE _ _ (gOp qLen _))); refine mg_B (cLenQ rfl) (by with_reducible assumption : mg _ = none) PySem.boot_len ?_ <;> walk_at "q")
 | ((with_reducible show PE _ _ (tE _ _ (gOp qAll _))); refine mg_BL (cAll rfl) (by with_reducible assumption : mg _ = none) Ro.boot_all ?_ <;> walk_at "q")
 | ((with_reducible show PE _ _ (tL _ _ (gOp qList _))); refine mg_T (cList rfl) (by with_reducible assumption : mg _ = none) Ro.boot_list ?_ <;> walk_at "q")
 | ((with_reducible show PE _ _ (tE _ _ (gOp qTuple _))); refine mg_T (cTuple rfl) (by with_reducible assumption : mg _ = none) Ro.boot_tuple ?_ <;> walk_at "q")
 | ((with_reducible show PE _ _ (tE _ _ (mUn (opIsi _) _))); refine me_isi rfl (by decide) (by with_reducible assumption : mg _ = none) (by with_reducible assumption : mg _ = none) (by first | exact Ro.boot_int | exact Ro.boot_bool | exact Ro.boot_list | exact Ro.boot_tuple | exact Ro.boot_str) ?_ <;> walk_at "q")
 | ((with_reducible show PE _ _ (tE _ _ (mOp opStrD _))); refine me_T (cStrD rfl hr) (by with_reducible assumption : mg _ = none) Ro.boot_str ?_ <;> walk_at "q")
 | ((with_reducible show PE _ _ (tE _ _ (mRevT _ _))); refine me_revT rfl ?_ ?_ <;> walk_at "q")
 | ((with_reducible show PE _ _ (tE _ _ (mBin opAddT _ _))); refine me_bin (oAddT rfl) ?_ ?_ <;> walk_at "q")
 | ((with_reducible show PE _ _ (tE _ _ (mBin opMulT _ _))); refine me_bin (oMulT rfl) ?_ ?_ <;> walk_at "q")
 | ((with_reducible show PT _ _ (tC' _ _ (cB (mNinR _ _ _)))); refine pt_ninR (by with_reducible assumption : mg _ = none) ?_ <;> walk_at "q")
 | ((with_reducible show PE _ _ (tE _ _ (mBin opEqT _ _))); refine me_cmp (oEqT rfl hu) ?_ ?_ <;> walk_at "q")
 | ((with_reducible show PT _ _ (tC' _ _ (cB (mBin opEqT _ _)))); refine pt_cmp' (oEqT rfl hu) ?_ ?_ <;> walk_at "q")
 | ((with_reducible show PE _ _ (tE _ _ (mMet "str" opJoin _ _))); refine me_met rfl PySem.F.plainAttrs_str PySem.F.slot_str_join PySem.F.type_str_join dJoin ?_ ?_ <;> walk_at "q")
 | ((with_reducible show PE _ _ (tE _ _ (mBin opInS _ _))); refine me_cmp oInS ?_ ?_ <;> walk_at "q")
 | ((with_reducible show PT _ _ (tC' _ _ (cB (mBin opInS _ _)))); refine pt_cmp' oInS ?_ ?_ <;> walk_at "q")
 | ((with_reducible show PI _ _ _ (tW _ _ (srcS _))); refine mi_s ?_ <;> walk_at "q")
 | ((with_reducible show PE _ _ (tL _ _ (lComp _ _ _ _ _))); refine ml_comp _ (CompScope.of rfl (by decide +kernel) (by decide +kernel) (by decide +kernel) (by repeat (first | exact trivial | refine ⟨⟨rfl, rfl, by first | exact .inl rfl | exact .inr rfl⟩, ?_⟩))) rfl ?_ (fun _ _ _ _ _ => ?_) (fun _ _ _ _ _ => ?_) (fun _ _ _ _ _ => ?_) <;> walk_at "q")
 | ((with_reducible exact pif_nil'))
 | ((with_reducible refine pif_one' ?_) <;> walk_at "q")
 | ((with_reducible refine mq_new ?_) <;> walk_at "q")
 | ((with_reducible show PI _ _ _ (tW _ _ (srcR (pCons _ pNil)))); refine mi_r1 (by with_reducible assumption : mg _ = none) ?_ <;> walk_at "q")
 | ((with_reducible show PI _ _ _ (tW _ _ (srcZ _ _))); refine mi_zip rfl (by with_reducible assumption : mg _ = none) ?_ ?_ <;> walk_at "q")
 | ((with_reducible show PI _ _ _ (tW _ _ (srcV' _))); refine mi_v rfl ?_ <;> walk_at "q")
 | ((with_reducible show PG _ _ (tT _ _ (gN _)));exact mg_name (by first|exact nd|(show List.Nodup (_ :: _);decide +kernel)))
 | ((with_reducible show PG _ _ (tT _ _ (gT _ _))); refine mg_tup rfl rfl ?_ <;> walk_at "q")
 | ((with_reducible show PG _ _ (tT _ _ (gSubL _ _))); refine mg_subL ?_ ?_ <;> walk_at "q")
 | ((with_reducible show PGs _ (_ :: _) _); refine mgs_cons ?_ ?_ <;> walk_at "q")
 | ((with_reducible exact mgs_nil))
 | ((with_reducible exact on_name))
 | ((with_reducible exact on_nil))
 | ((with_reducible exact on_subL))
 | ((with_reducible refine on_cons ?_ ?_) <;> walk_at "q")
 | ((with_reducible refine on_tup ?_) <;> walk_at "q")
 | ((with_reducible show PS _ _ (tS _ _ (sSet _ (mNew (lComp _ _ _ _ _))))); refine ms_setComp _ (CompScope.of rfl (by decide +kernel) (by decide +kernel) (by decide +kernel) (by repeat (first | exact trivial | refine ⟨⟨rfl, rfl, by first | exact .inl rfl | exact .inr rfl⟩, ?_⟩))) rfl nd ?_ (fun _ _ _ _ _ => ?_) (fun _ _ _ _ _ => ?_) (fun _ _ _ _ _ => ?_) <;> walk_at "q")
 | ((with_reducible show PS _ _ (tS _ _ (sSet _ (mNew (lLst _))))); (with_reducible refine ms_setL ?hN ?_ ?hi ?hx ?hf); (case hN => exact nd); (case hi => rfl); (case hx => exact Or.inl rfl); (case hf => exact Or.inl rfl); walk_at "q")
 | ((with_reducible show PS _ _ (tS _ _ (sSet _ _))); refine ms_set nd ?_ <;> walk_at "q")
 | ((with_reducible show PS _ _ (tS _ _ (sRet _))); refine ms_ret ?_ <;> walk_at "q")
 | ((with_reducible show PS _ _ (tS _ _ (sIf _ _ _))); refine ms_if ?_ ?_ ?_ <;> walk_at "q")
 | ((with_reducible show PS _ _ (tS _ _ (sExpr _))); refine ms_expr ?_ <;> walk_at "q")
 | ((with_reducible show PS _ _ (tS _ _ (sFor _ _ _))); refine ms_for PassesOwn.never rfl ?_ ?_ ?_ <;> walk_at "q")
 | ((with_reducible show PS _ _ (tS _ _ (sPar _ _ _))); refine ms_par rfl nd ?_ <;> walk_at "q")
 | ((with_reducible show PS _ _ (tS _ _ (sAsg _ _))); refine ms_asg ?_ ?_ ?_ <;> walk_at "q")
 | ((with_reducible show PS _ _ (tS _ _ (sDput _ _ _))); refine ms_dput hu1 ?_ ?_ ?_ <;> walk_at "q")
 | ((with_reducible show PS _ _ (tS _ _ (sWhl _ _ _))); refine ms_whl _ PassesOwn.never ?_ ?_ <;> walk_at "q")
 | ((with_reducible show PSs _ _ (tS _ _ (sSeq _ _))); refine mss_cons ?_ ?_ <;> walk_at "q")
 | ((with_reducible show PSs _ _ (tS _ _ sSkip));exact mss_nil)
 | (refine mss_one ?_ <;> walk_at "q"))
local macro_rules | `(tactic| walk_at "b") => `(tactic| (intro _ _ _ _ _ _ us hl; first
 | (match us,hl with|[],_=>rfl)|(match us,hl with|[_],_=>rfl)|(match us,hl with|[_,_],_=>rfl)|(match us,hl with|[_,_,_],_=>rfl)|(match us,hl with|[_,_,_,_],_=>rfl)
 | (match us,hl with|[_,_,_,_,_],_=>rfl)|(match us,hl with|[_,_,_,_,_,_],_=>rfl)))
set_option hygiene false in
local macro_rules | `(tactic| walk_at "g") => `(tactic| (intro hr nd; have hu1 := hu_of hr; have hu := hu30 hr; walk_at "q"))
section
variable {P:Program}{w:World}{T:Tx}{mg:Str->Option Value}{base:Heap}
variable (z_abs:mg "abs"=none)
variable (z_all:mg "all"=none)
variable (z_bool:mg "bool"=none)
variable (z_divmod:mg "divmod"=none)
variable (z_int:mg "int"=none)
variable (z_isinstance:mg "isinstance"=none)
variable (z_len:mg "len"=none)
variable (z_list:mg "list"=none)
variable (z_min:mg "min"=none)
variable (z_range:mg "range"=none)
variable (z_str:mg "str"=none)
variable (z_tuple:mg "tuple"=none)
variable (z_zip:mg "zip"=none)
variable (q_GREATEST_BELOW:Kst T mg "GREATEST_BELOW" k_GREATEST_BELOW)
variable (q_GREATEST_LENGTH:Kst T mg "GREATEST_LENGTH" k_GREATEST_LENGTH)
variable (q_GREATEST_UPTO:Kst T mg "GREATEST_UPTO" k_GREATEST_UPTO)
variable (q_LEAST_RATES:Kst T mg "LEAST_RATES" k_LEAST_RATES)
variable (q_LONGEST_NAME:Kst T mg "LONGEST_NAME" k_LONGEST_NAME)
variable (q_MOST_LEFT_ROWS:Kst T mg "MOST_LEFT_ROWS" k_MOST_LEFT_ROWS)
variable (q_MOST_RATES:Kst T mg "MOST_RATES" k_MOST_RATES)
variable (q_MOST_ROWS:Kst T mg "MOST_ROWS" k_MOST_ROWS)
variable (h_greatest_divisor:Fk P w T mg base "greatest_divisor" 2 1 f_greatest_divisor)
variable (h_is_number:Fk P w T mg base "is_number" 1 1 f_is_number)
variable (h_is_number_from:Fk P w T mg base "is_number_from" 3 2 f_is_number_from)
variable (h_is_tuple_of:Fk P w T mg base "is_tuple_of" 2 1 f_is_tuple_of)
variable (h_is_name:Fk P w T mg base "is_name" 1 1 f_is_name)
variable (h_is_part:Fk P w T mg base "is_part" 1 3 f_is_part)
variable (h_are_uptos:Fk P w T mg base "are_uptos" 1 3 f_are_uptos)
variable (h_is_rates:Fk P w T mg base "is_rates" 1 4 f_is_rates)
variable (h_is_row:Fk P w T mg base "is_row" 1 5 f_is_row)
variable (h_is_rows:Fk P w T mg base "is_rows" 1 6 f_is_rows)
variable (h__law_begin:Fk P w T mg base "_law_begin" 1 1 f__law_begin)
variable (h__law_take:Fk P w T mg base "_law_take" 2 1 f__law_take)
variable (h__law_lowest:Fk P w T mg base "_law_lowest" 2 1 f__law_lowest)
variable (h__law_any_name:Fk P w T mg base "_law_any_name" 1 2 f__law_any_name06)
variable (h__law_names:Fk P w T mg base "_law_names" 2 3 f__law_names06)
variable (h__law_part:Fk P w T mg base "_law_part" 1 2 f__law_part)
variable (h__law_row:Fk P w T mg base "_law_row" 3 3 f__law_row06)
variable (h__law_rows:Fk P w T mg base "_law_rows" 3 4 f__law_rows06)
variable (h__law_some_rows:Fk P w T mg base "_law_some_rows" 1 5 f__law_some_rows06)
variable (h__law_whole:Fk P w T mg base "_law_whole" 3 1 f__law_whole06)
variable (h__law_is_part:Fk P w T mg base "_law_is_part" 1 2 f__law_is_part)
variable (h__law_are_rates:Fk P w T mg base "_law_are_rates" 1 3 f__law_are_rates)
variable (h__law_is_row:Fk P w T mg base "_law_is_row" 1 4 f__law_is_row06)
variable (h__law_due:Fk P w T mg base "_law_due" 1 5 f__law_due)
variable (h__law_odd:Fk P w T mg base "_law_odd" 1 2 f__law_odd06)
variable (h__law_bent_rates:Fk P w T mg base "_law_bent_rates" 2 3 f__law_bent_rates)
variable (h__law_signed:Fk P w T mg base "_law_signed" 2 2 f__law_signed)
variable (h__law_bent_row:Fk P w T mg base "_law_bent_row" 2 4 f__law_bent_row)
variable (h__law_bent:Fk P w T mg base "_law_bent" 2 5 f__law_bent)
include z_abs in
theorem ok_greatest_divisor (_:Df T mg "greatest_divisor" (top 1)):Fk P w T mg base "greatest_divisor" 2 1 f_greatest_divisor:=by
 unfold f_greatest_divisor b_greatest_divisor
 refine fk_of ["one","other"] (by with_reducible assumption) ⟨rfl,rfl,rfl,by decide +kernel,rfl,by decide +kernel,by decide +kernel⟩ (by walk_at "b") rfl λ _ _ _ _ _ _ _=>?_
 walk_at "g"
include z_bool z_int z_isinstance in
theorem ok_is_number (_:Df T mg "is_number" (top 5)):Fk P w T mg base "is_number" 1 1 f_is_number:=by
 unfold f_is_number b_is_number
 refine fk_of ["thing"] (by with_reducible assumption) ⟨rfl,rfl,rfl,by decide +kernel,rfl,by decide +kernel,by decide +kernel⟩ (by walk_at "b") rfl λ _ _ _ _ _ _ _=>?_
 walk_at "g"
include h_is_number in
theorem ok_is_number_from (_:Df T mg "is_number_from" (top 6)):Fk P w T mg base "is_number_from" 3 2 f_is_number_from:=by
 unfold f_is_number_from b_is_number_from
 refine fk_of ["thing","least","most"] (by with_reducible assumption) ⟨rfl,rfl,rfl,by decide +kernel,rfl,by decide +kernel,by decide +kernel⟩ (by walk_at "b") rfl λ _ _ _ _ _ _ _=>?_
 walk_at "g"
include z_isinstance z_len z_tuple in
theorem ok_is_tuple_of (_:Df T mg "is_tuple_of" (top 7)):Fk P w T mg base "is_tuple_of" 2 1 f_is_tuple_of:=by
 unfold f_is_tuple_of b_is_tuple_of
 refine fk_of ["thing","many"] (by with_reducible assumption) ⟨rfl,rfl,rfl,by decide +kernel,rfl,by decide +kernel,by decide +kernel⟩ (by walk_at "b") rfl λ _ _ _ _ _ _ _=>?_
 walk_at "g"
include z_all z_isinstance z_len z_str q_LONGEST_NAME in
theorem ok_is_name (_:Df T mg "is_name" (top 8)):Fk P w T mg base "is_name" 1 1 f_is_name:=by
 unfold f_is_name b_is_name
 refine fk_of ["thing"] (by with_reducible assumption) ⟨rfl,rfl,rfl,by decide +kernel,rfl,by decide +kernel,by decide +kernel⟩ (by walk_at "b") rfl λ _ _ _ _ _ _ _=>?_
 walk_at "g"
include q_GREATEST_BELOW h_greatest_divisor h_is_number_from h_is_tuple_of in
theorem ok_is_part (_:Df T mg "is_part" (top 9)):Fk P w T mg base "is_part" 1 3 f_is_part:=by
 unfold f_is_part b_is_part
 refine fk_of ["thing","top","below"] (by with_reducible assumption) ⟨rfl,rfl,rfl,by decide +kernel,rfl,by decide +kernel,by decide +kernel⟩ (by walk_at "b") rfl λ _ _ _ _ _ _ _=>?_
 walk_at "g"
include q_GREATEST_UPTO h_is_number_from in
theorem ok_are_uptos (_:Df T mg "are_uptos" (top 20)):Fk P w T mg base "are_uptos" 1 3 f_are_uptos:=by
 unfold f_are_uptos b_are_uptos
 refine fk_of ["things","least","thing"] (by with_reducible assumption) ⟨rfl,rfl,rfl,by decide +kernel,rfl,by decide +kernel,by decide +kernel⟩ (by walk_at "b") rfl λ _ _ _ _ _ _ _=>?_
 walk_at "g"
include z_all z_isinstance z_len z_tuple q_LEAST_RATES q_MOST_RATES h_is_tuple_of h_is_part h_are_uptos in
theorem ok_is_rates (_:Df T mg "is_rates" (top 19)):Fk P w T mg base "is_rates" 1 4 f_is_rates:=by
 unfold f_is_rates b_is_rates
 refine fk_of ["thing"] (by with_reducible assumption) ⟨rfl,rfl,rfl,by decide +kernel,rfl,by decide +kernel,by decide +kernel⟩ (by walk_at "b") rfl λ _ _ _ _ _ _ _=>?_
 walk_at "g"
include q_GREATEST_LENGTH h_is_number_from h_is_tuple_of h_is_name h_is_part h_is_rates in
theorem ok_is_row (_:Df T mg "is_row" (top 18)):Fk P w T mg base "is_row" 1 5 f_is_row:=by
 unfold f_is_row b_is_row
 refine fk_of ["thing","kind","name","told"] (by with_reducible assumption) ⟨rfl,rfl,rfl,by decide +kernel,rfl,by decide +kernel,by decide +kernel⟩ (by walk_at "b") rfl λ _ _ _ _ _ _ _=>?_
 walk_at "g"
include z_all z_isinstance z_len z_tuple q_MOST_LEFT_ROWS q_MOST_ROWS h_is_row in
theorem ok_is_rows (_:Df T mg "is_rows" (top 17)):Fk P w T mg base "is_rows" 1 6 f_is_rows:=by
 unfold f_is_rows b_is_rows
 refine fk_of ["thing"] (by with_reducible assumption) ⟨rfl,rfl,rfl,by decide +kernel,rfl,by decide +kernel,by decide +kernel⟩ (by walk_at "b") rfl λ _ _ _ _ _ _ _=>?_
 walk_at "g"
include z_list in
theorem ok__law_begin (_:Df T mg "_law_begin" (top 22)):Fk P w T mg base "_law_begin" 1 1 f__law_begin:=by
 unfold f__law_begin b__law_begin
 refine fk_of ["_law_script","_law_cells"] (by with_reducible assumption) ⟨rfl,rfl,rfl,by decide +kernel,rfl,by decide +kernel,by decide +kernel⟩ (by walk_at "b") rfl λ _ _ _ _ _ _ _=>?_
 walk_at "g"
include z_divmod z_len in
theorem ok__law_take (_:Df T mg "_law_take" (top 23)):Fk P w T mg base "_law_take" 2 1 f__law_take:=by
 unfold f__law_take b__law_take
 refine fk_of ["_law_state","_law_many","_law_turn","_law_place","_law_cell","_law_mixed","_law_digit"] (by with_reducible assumption) ⟨rfl,rfl,rfl,by decide +kernel,rfl,by decide +kernel,by decide +kernel⟩ (by walk_at "b") rfl λ _ _ _ _ _ _ _=>?_
 walk_at "g"
include z_abs in
theorem ok__law_lowest (_:Df T mg "_law_lowest" (top 24)):Fk P w T mg base "_law_lowest" 2 1 f__law_lowest:=by
 unfold f__law_lowest b__law_lowest
 refine fk_of ["_law_top","_law_below","_law_sign","_law_one","_law_other"] (by with_reducible assumption) ⟨rfl,rfl,rfl,by decide +kernel,rfl,by decide +kernel,by decide +kernel⟩ (by walk_at "b") rfl λ _ _ _ _ _ _ _=>?_
 walk_at "g"
include z_range h__law_take in
theorem ok__law_any_name (_:Df T mg "_law_any_name" (top 26)):Fk P w T mg base "_law_any_name" 1 2 f__law_any_name06:=by
 unfold f__law_any_name06 b__law_any_name06
 refine fk_of ["_law_state","_law_letters"] (by with_reducible assumption) ⟨rfl,rfl,rfl,by decide +kernel,rfl,by decide +kernel,by decide +kernel⟩ (by walk_at "b") rfl λ _ _ _ _ _ _ _=>?_
 walk_at "g"
include z_len z_range h__law_take h__law_any_name in
theorem ok__law_names (_:Df T mg "_law_names" (top 25)):Fk P w T mg base "_law_names" 2 3 f__law_names06:=by
 unfold f__law_names06 b__law_names06
 refine fk_of ["_law_state","_law_many","_law_some","_law_found","_law_turn","_law_name","_law_other"] (by with_reducible assumption) ⟨rfl,rfl,rfl,by decide +kernel,rfl,by decide +kernel,by decide +kernel⟩ (by walk_at "b") rfl λ _ _ _ _ _ _ _=>?_
 walk_at "g"
include h__law_take h__law_lowest in
theorem ok__law_part (_:Df T mg "_law_part" (top 27)):Fk P w T mg base "_law_part" 1 2 f__law_part:=by
 unfold f__law_part b__law_part
 refine fk_of ["_law_state","_law_below"] (by with_reducible assumption) ⟨rfl,rfl,rfl,by decide +kernel,rfl,by decide +kernel,by decide +kernel⟩ (by walk_at "b") rfl λ _ _ _ _ _ _ _=>?_
 walk_at "g"
include z_min z_range z_tuple h__law_take h__law_lowest h__law_part in
theorem ok__law_row (_:Df T mg "_law_row" (top 28)):Fk P w T mg base "_law_row" 3 3 f__law_row06:=by
 unfold f__law_row06 b__law_row06
 refine fk_of ["_law_state","_law_name","_law_room","_law_way","_law_most","_law_rates","_law_upto","_law_turn"] (by with_reducible assumption) ⟨rfl,rfl,rfl,by decide +kernel,rfl,by decide +kernel,by decide +kernel⟩ (by walk_at "b") rfl λ _ _ _ _ _ _ _=>?_
 walk_at "g"
include z_int z_len z_range z_tuple h__law_take h__law_row in
theorem ok__law_rows (_:Df T mg "_law_rows" (top 29)):Fk P w T mg base "_law_rows" 3 4 f__law_rows06:=by
 unfold f__law_rows06 b__law_rows06
 refine fk_of ["_law_state","_law_names_here","_law_many","_law_room","_law_found","_law_turn","_law_row_here","_law_taken"] (by with_reducible assumption) ⟨rfl,rfl,rfl,by decide +kernel,rfl,by decide +kernel,by decide +kernel⟩ (by walk_at "b") rfl λ _ _ _ _ _ _ _=>?_
 walk_at "g"
include z_int h__law_take h__law_names h__law_rows in
theorem ok__law_some_rows (_:Df T mg "_law_some_rows" (top 30)):Fk P w T mg base "_law_some_rows" 1 5 f__law_some_rows06:=by
 unfold f__law_some_rows06 b__law_some_rows06
 refine fk_of ["_law_state","_law_many"] (by with_reducible assumption) ⟨rfl,rfl,rfl,by decide +kernel,rfl,by decide +kernel,by decide +kernel⟩ (by walk_at "b") rfl λ _ _ _ _ _ _ _=>?_
 walk_at "g"
include z_bool z_int z_isinstance in
theorem ok__law_whole (_:Df T mg "_law_whole" (top 31)):Fk P w T mg base "_law_whole" 3 1 f__law_whole06:=by
 unfold f__law_whole06 b__law_whole06
 refine fk_of ["_law_thing","_law_least","_law_most"] (by with_reducible assumption) ⟨rfl,rfl,rfl,by decide +kernel,rfl,by decide +kernel,by decide +kernel⟩ (by walk_at "b") rfl λ _ _ _ _ _ _ _=>?_
 walk_at "g"
include z_isinstance z_len z_tuple h__law_lowest h__law_whole in
theorem ok__law_is_part (_:Df T mg "_law_is_part" (top 32)):Fk P w T mg base "_law_is_part" 1 2 f__law_is_part:=by
 unfold f__law_is_part b__law_is_part
 refine fk_of ["_law_thing"] (by with_reducible assumption) ⟨rfl,rfl,rfl,by decide +kernel,rfl,by decide +kernel,by decide +kernel⟩ (by walk_at "b") rfl λ _ _ _ _ _ _ _=>?_
 walk_at "g"
include z_all z_isinstance z_len z_tuple z_zip h__law_whole h__law_is_part in
theorem ok__law_are_rates (_:Df T mg "_law_are_rates" (top 33)):Fk P w T mg base "_law_are_rates" 1 3 f__law_are_rates:=by
 unfold f__law_are_rates b__law_are_rates
 refine fk_of ["_law_thing","_law_uptos"] (by with_reducible assumption) ⟨rfl,rfl,rfl,by decide +kernel,rfl,by decide +kernel,by decide +kernel⟩ (by walk_at "b") rfl λ _ _ _ _ _ _ _=>?_
 walk_at "g"
include z_all z_isinstance z_len z_range z_str z_tuple h__law_whole h__law_is_part h__law_are_rates in
theorem ok__law_is_row (_:Df T mg "_law_is_row" (top 34)):Fk P w T mg base "_law_is_row" 1 4 f__law_is_row06:=by
 unfold f__law_is_row06 b__law_is_row06
 refine fk_of ["_law_thing"] (by with_reducible assumption) ⟨rfl,rfl,rfl,by decide +kernel,rfl,by decide +kernel,by decide +kernel⟩ (by walk_at "b") rfl λ _ _ _ _ _ _ _=>?_
 walk_at "g"
include z_all z_isinstance z_len z_tuple h__law_is_row in
theorem ok__law_due (_:Df T mg "_law_due" (top 35)):Fk P w T mg base "_law_due" 1 5 f__law_due:=by
 unfold f__law_due b__law_due
 refine fk_of ["_law_thing"] (by with_reducible assumption) ⟨rfl,rfl,rfl,by decide +kernel,rfl,by decide +kernel,by decide +kernel⟩ (by walk_at "b") rfl λ _ _ _ _ _ _ _=>?_
 walk_at "g"
include z_len h__law_take in
theorem ok__law_odd (_:Df T mg "_law_odd" (top 36)):Fk P w T mg base "_law_odd" 1 2 f__law_odd06:=by
 unfold f__law_odd06 b__law_odd06
 refine fk_of ["_law_state","_law_some"] (by with_reducible assumption) ⟨rfl,rfl,rfl,by decide +kernel,rfl,by decide +kernel,by decide +kernel⟩ (by walk_at "b") rfl λ _ _ _ _ _ _ _=>?_
 walk_at "g"
include z_len z_list h__law_take h__law_odd in
theorem ok__law_bent_rates (_:Df T mg "_law_bent_rates" (top 37)):Fk P w T mg base "_law_bent_rates" 2 3 f__law_bent_rates:=by
 unfold f__law_bent_rates b__law_bent_rates
 refine fk_of ["_law_state","_law_rates","_law_at","_law_some","_law_upto","_law_part_here"] (by with_reducible assumption) ⟨rfl,rfl,rfl,by decide +kernel,rfl,by decide +kernel,by decide +kernel⟩ (by walk_at "b") rfl λ _ _ _ _ _ _ _=>?_
 walk_at "g"
include z_len h__law_take in
theorem ok__law_signed (_:Df T mg "_law_signed" (top 38)):Fk P w T mg base "_law_signed" 2 2 f__law_signed:=by
 unfold f__law_signed b__law_signed
 refine fk_of ["_law_state","_law_name","_law_signs","_law_at"] (by with_reducible assumption) ⟨rfl,rfl,rfl,by decide +kernel,rfl,by decide +kernel,by decide +kernel⟩ (by walk_at "b") rfl λ _ _ _ _ _ _ _=>?_
 walk_at "g"
include z_list h__law_take h__law_odd h__law_bent_rates h__law_signed in
theorem ok__law_bent_row (_:Df T mg "_law_bent_row" (top 39)):Fk P w T mg base "_law_bent_row" 2 4 f__law_bent_row:=by
 unfold f__law_bent_row b__law_bent_row
 refine fk_of ["_law_state","_law_row_here","_law_kinds","_law_some","_law_kind","_law_name","_law_told"] (by with_reducible assumption) ⟨rfl,rfl,rfl,by decide +kernel,rfl,by decide +kernel,by decide +kernel⟩ (by walk_at "b") rfl λ _ _ _ _ _ _ _=>?_
 walk_at "g"
include z_len z_list h__law_take h__law_odd h__law_bent_row in
theorem ok__law_bent (_:Df T mg "_law_bent" (top 40)):Fk P w T mg base "_law_bent" 2 5 f__law_bent:=by
 unfold f__law_bent b__law_bent
 refine fk_of ["_law_state","_law_rows_here","_law_at","_law_left","_law_some","_law_way"] (by with_reducible assumption) ⟨rfl,rfl,rfl,by decide +kernel,rfl,by decide +kernel,by decide +kernel⟩ (by walk_at "b") rfl λ _ _ _ _ _ _ _=>?_
 walk_at "g"
include z_bool z_isinstance z_range z_str h_is_rows h__law_begin h__law_some_rows h__law_due h__law_bent in
theorem ok_law {f:Addr}{fd:FuncData}(F:Fun T.K "law" "law" (top 41) f fd):FnOk P w T.K mg base CX0 7 f fd ["_law_script"] (spOf T 1 f_law06):=by
 unfold f_law06 b_law06
 have S:FnScope ["_law_script","_law_state","_law_turn","_law_rows_here","_law_again","_law_thing","_law_kept","_law_found"] ["_law_script"] (defScope (top 41)):=⟨rfl,rfl,rfl,by decide +kernel,rfl,by decide +kernel,by decide +kernel⟩
 refine fn_ok (k:=6) F S λ _ _ _ _ _ _ hr=>?_
 have nd:=S.nd
 revert nd hr
 walk_at "g"
end
theorem all_ok {P:Program}{w:World}{T:Tx}{mg:Str->Option Value}{base:Heap}(z_abs:mg "abs"=none)(z_all:mg "all"=none)(z_bool:mg "bool"=none)(z_divmod:mg "divmod"=none)(z_int:mg "int"=none)(z_isinstance:mg "isinstance"=none)(z_len:mg "len"=none)(z_list:mg "list"=none)(z_min:mg "min"=none)(z_range:mg "range"=none)(z_str:mg "str"=none)(z_tuple:mg "tuple"=none)(z_zip:mg "zip"=none)(q_GREATEST_BELOW:Kst T mg "GREATEST_BELOW" k_GREATEST_BELOW)(q_GREATEST_LENGTH:Kst T mg "GREATEST_LENGTH" k_GREATEST_LENGTH)(q_GREATEST_UPTO:Kst T mg "GREATEST_UPTO" k_GREATEST_UPTO)(q_LEAST_RATES:Kst T mg "LEAST_RATES" k_LEAST_RATES)(q_LONGEST_NAME:Kst T mg "LONGEST_NAME" k_LONGEST_NAME)(q_MOST_LEFT_ROWS:Kst T mg "MOST_LEFT_ROWS" k_MOST_LEFT_ROWS)(q_MOST_RATES:Kst T mg "MOST_RATES" k_MOST_RATES)(q_MOST_ROWS:Kst T mg "MOST_ROWS" k_MOST_ROWS)(d0:Df T mg "greatest_divisor" (top 1)) (d1:Df T mg "is_number" (top 5)) (d2:Df T mg "is_number_from" (top 6)) (d3:Df T mg "is_tuple_of" (top 7)) (d4:Df T mg "is_name" (top 8)) (d5:Df T mg "is_part" (top 9)) (d6:Df T mg "are_uptos" (top 20)) (d7:Df T mg "is_rates" (top 19)) (d8:Df T mg "is_row" (top 18)) (d9:Df T mg "is_rows" (top 17)) (d10:Df T mg "_law_begin" (top 22)) (d11:Df T mg "_law_take" (top 23)) (d12:Df T mg "_law_lowest" (top 24)) (d13:Df T mg "_law_any_name" (top 26)) (d14:Df T mg "_law_names" (top 25)) (d15:Df T mg "_law_part" (top 27)) (d16:Df T mg "_law_row" (top 28)) (d17:Df T mg "_law_rows" (top 29)) (d18:Df T mg "_law_some_rows" (top 30)) (d19:Df T mg "_law_whole" (top 31)) (d20:Df T mg "_law_is_part" (top 32)) (d21:Df T mg "_law_are_rates" (top 33)) (d22:Df T mg "_law_is_row" (top 34)) (d23:Df T mg "_law_due" (top 35)) (d24:Df T mg "_law_odd" (top 36)) (d25:Df T mg "_law_bent_rates" (top 37)) (d26:Df T mg "_law_signed" (top 38)) (d27:Df T mg "_law_bent_row" (top 39)) (d28:Df T mg "_law_bent" (top 40)) (d29:Df T mg "law" (top 41)) {f:Addr}{fd:FuncData}(F:Fun T.K "law" "law" (top 41) f fd) :
  FnOk P w T.K mg base CX0 7 f fd ["_law_script"] (spOf T 1 f_law06):=by
 have h_greatest_divisor:=ok_greatest_divisor (P:=P) (w:=w) (base:=base) z_abs d0
 have h_is_number:=ok_is_number (P:=P) (w:=w) (base:=base) z_bool z_int z_isinstance d1
 have h_is_number_from:=ok_is_number_from (P:=P) (w:=w) (base:=base) h_is_number d2
 have h_is_tuple_of:=ok_is_tuple_of (P:=P) (w:=w) (base:=base) z_isinstance z_len z_tuple d3
 have h_is_name:=ok_is_name (P:=P) (w:=w) (base:=base) z_all z_isinstance z_len z_str q_LONGEST_NAME d4
 have h_is_part:=ok_is_part (P:=P) (w:=w) (base:=base) q_GREATEST_BELOW h_greatest_divisor h_is_number_from h_is_tuple_of d5
 have h_are_uptos:=ok_are_uptos (P:=P) (w:=w) (base:=base) q_GREATEST_UPTO h_is_number_from d6
 have h_is_rates:=ok_is_rates (P:=P) (w:=w) (base:=base) z_all z_isinstance z_len z_tuple q_LEAST_RATES q_MOST_RATES h_is_tuple_of h_is_part h_are_uptos d7
 have h_is_row:=ok_is_row (P:=P) (w:=w) (base:=base) q_GREATEST_LENGTH h_is_number_from h_is_tuple_of h_is_name h_is_part h_is_rates d8
 have h_is_rows:=ok_is_rows (P:=P) (w:=w) (base:=base) z_all z_isinstance z_len z_tuple q_MOST_LEFT_ROWS q_MOST_ROWS h_is_row d9
 have h__law_begin:=ok__law_begin (P:=P) (w:=w) (base:=base) z_list d10
 have h__law_take:=ok__law_take (P:=P) (w:=w) (base:=base) z_divmod z_len d11
 have h__law_lowest:=ok__law_lowest (P:=P) (w:=w) (base:=base) z_abs d12
 have h__law_any_name:=ok__law_any_name (P:=P) (w:=w) (base:=base) z_range h__law_take d13
 have h__law_names:=ok__law_names (P:=P) (w:=w) (base:=base) z_len z_range h__law_take h__law_any_name d14
 have h__law_part:=ok__law_part (P:=P) (w:=w) (base:=base) h__law_take h__law_lowest d15
 have h__law_row:=ok__law_row (P:=P) (w:=w) (base:=base) z_min z_range z_tuple h__law_take h__law_lowest h__law_part d16
 have h__law_rows:=ok__law_rows (P:=P) (w:=w) (base:=base) z_int z_len z_range z_tuple h__law_take h__law_row d17
 have h__law_some_rows:=ok__law_some_rows (P:=P) (w:=w) (base:=base) z_int h__law_take h__law_names h__law_rows d18
 have h__law_whole:=ok__law_whole (P:=P) (w:=w) (base:=base) z_bool z_int z_isinstance d19
 have h__law_is_part:=ok__law_is_part (P:=P) (w:=w) (base:=base) z_isinstance z_len z_tuple h__law_lowest h__law_whole d20
 have h__law_are_rates:=ok__law_are_rates (P:=P) (w:=w) (base:=base) z_all z_isinstance z_len z_tuple z_zip h__law_whole h__law_is_part d21
 have h__law_is_row:=ok__law_is_row (P:=P) (w:=w) (base:=base) z_all z_isinstance z_len z_range z_str z_tuple h__law_whole h__law_is_part h__law_are_rates d22
 have h__law_due:=ok__law_due (P:=P) (w:=w) (base:=base) z_all z_isinstance z_len z_tuple h__law_is_row d23
 have h__law_odd:=ok__law_odd (P:=P) (w:=w) (base:=base) z_len h__law_take d24
 have h__law_bent_rates:=ok__law_bent_rates (P:=P) (w:=w) (base:=base) z_len z_list h__law_take h__law_odd d25
 have h__law_signed:=ok__law_signed (P:=P) (w:=w) (base:=base) z_len h__law_take d26
 have h__law_bent_row:=ok__law_bent_row (P:=P) (w:=w) (base:=base) z_list h__law_take h__law_odd h__law_bent_rates h__law_signed d27
 have h__law_bent:=ok__law_bent (P:=P) (w:=w) (base:=base) z_len z_list h__law_take h__law_odd h__law_bent_row d28
 exact ok_law z_bool z_isinstance z_range z_str h_is_rows h__law_begin h__law_some_rows h__law_due h__law_bent F
theorem fin_mk {l:PySem.W.OpenLaw}{w:World}{K:PySem.W.Frag}{h:Heap}{mg:Str->Option Value}{fa:Addr}(X:K.In h)(G:h.Ns mainGlobals mg)(hfa:mg "law"=some (.ref fa)) (z_abs:PySem.W.nsIn K mainGlobals "abs"=some none)(z_all:PySem.W.nsIn K mainGlobals "all"=some none)(z_bool:PySem.W.nsIn K mainGlobals "bool"=some none)(z_divmod:PySem.W.nsIn K mainGlobals "divmod"=some none)(z_int:PySem.W.nsIn K mainGlobals "int"=some none)(z_isinstance:PySem.W.nsIn K mainGlobals "isinstance"=some none)(z_len:PySem.W.nsIn K mainGlobals "len"=some none)(z_list:PySem.W.nsIn K mainGlobals "list"=some none)(z_min:PySem.W.nsIn K mainGlobals "min"=some none)(z_range:PySem.W.nsIn K mainGlobals "range"=some none)(z_str:PySem.W.nsIn K mainGlobals "str"=some none)(z_tuple:PySem.W.nsIn K mainGlobals "tuple"=some none)(z_zip:PySem.W.nsIn K mainGlobals "zip"=some none)(q_GREATEST_BELOW:Kst (TK K) mg "GREATEST_BELOW" k_GREATEST_BELOW) (q_GREATEST_LENGTH:Kst (TK K) mg "GREATEST_LENGTH" k_GREATEST_LENGTH) (q_GREATEST_UPTO:Kst (TK K) mg "GREATEST_UPTO" k_GREATEST_UPTO) (q_LEAST_RATES:Kst (TK K) mg "LEAST_RATES" k_LEAST_RATES) (q_LONGEST_NAME:Kst (TK K) mg "LONGEST_NAME" k_LONGEST_NAME) (q_MOST_LEFT_ROWS:Kst (TK K) mg "MOST_LEFT_ROWS" k_MOST_LEFT_ROWS) (q_MOST_RATES:Kst (TK K) mg "MOST_RATES" k_MOST_RATES) (q_MOST_ROWS:Kst (TK K) mg "MOST_ROWS" k_MOST_ROWS) (d0:Df (TK K) mg "greatest_divisor" (top 1)) (d1:Df (TK K) mg "is_number" (top 5)) (d2:Df (TK K) mg "is_number_from" (top 6)) (d3:Df (TK K) mg "is_tuple_of" (top 7)) (d4:Df (TK K) mg "is_name" (top 8)) (d5:Df (TK K) mg "is_part" (top 9)) (d6:Df (TK K) mg "are_uptos" (top 20)) (d7:Df (TK K) mg "is_rates" (top 19)) (d8:Df (TK K) mg "is_row" (top 18)) (d9:Df (TK K) mg "is_rows" (top 17)) (d10:Df (TK K) mg "_law_begin" (top 22)) (d11:Df (TK K) mg "_law_take" (top 23)) (d12:Df (TK K) mg "_law_lowest" (top 24)) (d13:Df (TK K) mg "_law_any_name" (top 26)) (d14:Df (TK K) mg "_law_names" (top 25)) (d15:Df (TK K) mg "_law_part" (top 27)) (d16:Df (TK K) mg "_law_row" (top 28)) (d17:Df (TK K) mg "_law_rows" (top 29)) (d18:Df (TK K) mg "_law_some_rows" (top 30)) (d19:Df (TK K) mg "_law_whole" (top 31)) (d20:Df (TK K) mg "_law_is_part" (top 32)) (d21:Df (TK K) mg "_law_are_rates" (top 33)) (d22:Df (TK K) mg "_law_is_row" (top 34)) (d23:Df (TK K) mg "_law_due" (top 35)) (d24:Df (TK K) mg "_law_odd" (top 36)) (d25:Df (TK K) mg "_law_bent_rates" (top 37)) (d26:Df (TK K) mg "_law_signed" (top 38)) (d27:Df (TK K) mg "_law_bent_row" (top 39)) (d28:Df (TK K) mg "_law_bent" (top 40)) (d29:Df (TK K) mg "law" (top 41)):∃ fd:FuncData,(∀ (s:Shared) (v:Value),BindsTo s fd ⟨[v],[]⟩ [("_law_script",v)])/\∀ base:Heap,K.In base->base.Ns mainGlobals mg->FnOk l.prog w K mg base CX0 7 fa fd ["_law_script"] (spOf (TK K) 1 f_law06):=
 fin_of (h:=h) hfa d29 (λ _ _ _ _ _ _ _ _=>.of_eq rfl) λ base f fd F=>all_ok (PySem.W.mg_none_of X G z_abs) (PySem.W.mg_none_of X G z_all) (PySem.W.mg_none_of X G z_bool) (PySem.W.mg_none_of X G z_divmod) (PySem.W.mg_none_of X G z_int) (PySem.W.mg_none_of X G z_isinstance) (PySem.W.mg_none_of X G z_len) (PySem.W.mg_none_of X G z_list) (PySem.W.mg_none_of X G z_min) (PySem.W.mg_none_of X G z_range) (PySem.W.mg_none_of X G z_str) (PySem.W.mg_none_of X G z_tuple) (PySem.W.mg_none_of X G z_zip) q_GREATEST_BELOW q_GREATEST_LENGTH q_GREATEST_UPTO q_LEAST_RATES q_LONGEST_NAME q_MOST_LEFT_ROWS q_MOST_RATES q_MOST_ROWS d0 d1 d2 d3 d4 d5 d6 d7 d8 d9 d10 d11 d12 d13 d14 d15 d16 d17 d18 d19 d20 d21 d22 d23 d24 d25 d26 d27 d28 d29 F
end Ro
namespace Ro
open PySem L2
end Ro
namespace L2
open PySem PySem.Spec PyProof.Rows
end L2
namespace Ro
open PySem L2
end Ro
namespace Ro
open PySem L2
abbrev Fs:=List (Int × Int)
def den:Fs->Int
 | []=>1
 | f :: r=>f.2 * den r
def num:Fs->Int
 | []=>0
 | f :: r=>f.1 * den r+f.2 * num r
def Pos1 (fs:Fs):Prop:=∀ f∈fs,1<=f.2
theorem den_pos:∀ {fs:Fs},Pos1 fs->1<=den fs
 | [],_=>by decide
 | f :: r,h=>by
  have h1:1<=f.2:=h f List.mem_cons_self
  have h2:=den_pos (fs:=r) λ g hg=>h g (List.mem_cons_of_mem _ hg)
  show 1<=f.2 * den r
  have:=Int.mul_pos (show 0 < f.2 by omega) (show 0 < den r by omega)
  omega
end Ro
namespace Ro
open PySem L2
abbrev ig (a b:Int):Int:=((Int.gcd a b:Nat):Int)
end Ro
namespace Ro
open PySem L2 Mm
def fq (q:Rat):AV:=.tup [.int q.num,.int q.den]
theorem rat_cop (q:Rat):Int.gcd q.num (q.den:Int)=1:=q.reduced
theorem rat_den (q:Rat):(1:Int)<=(q.den:Int):=by have:=q.den_pos;omega
theorem fr_rat {t b:Int}(h:b≠0):fr t b=((Rat.divInt t b).num,((Rat.divInt t b).den:Int)):=by
 refine fr_uniq h (rat_den _) (rat_cop _) ?_
 have e:=Rat.num_divInt_den (Rat.divInt t b)
 have:=(Rat.divInt_eq_divInt_iff (by have:=(Rat.divInt t b).den_pos;omega) h).mp e
 exact this
theorem big_of {n:Nat}{i:Int}(h:Fit n i)(k:n<=60000000):Big i:=⟨h.mono k⟩
theorem mid_of {n:Nat}{i:Int}(h:Fit n i)(k:n<=9000):Mid i:=⟨h.mono k⟩
theorem fmod_nn {x y:Int}(hx:0<=x)(hy:0 < y):0<=x.fmod y/\x.fmod y < y:=by
 rw[Int.fmod_eq_emod_of_nonneg _ (by omega)]
 exact⟨Int.emod_nonneg _ (by omega),Int.emod_lt_of_pos _ hy⟩
theorem ig_fmod {x y:Int}(hy:0 < y):ig y (x.fmod y)=ig x y:=by
 rw[Int.fmod_eq_emod_of_nonneg _ (by omega)]
 show((Int.gcd y (x % y):Nat):Int)=((Int.gcd x y:Nat):Int)
 congr 1
 rw[Int.gcd_comm]
 have h1:=Int.emod_def x y
 rw[h1,Int.gcd_sub_mul_left_left]
theorem gcd_loop:∀ (n:Nat)(x y:Int)(s:S),0<=x->0<=y->y.natAbs < n->
  whl (cB (mBin opNe (mv 1) (mc (.int 0)))) (sPar 0 1 (pCons (mv 1) (pCons (mBin opMod (mv 0) (mv 1)) pNil))) n [some (.int x),some (.int y)] s=.nx [some (.int (ig x y)),some (.int 0)] s
 | 0,_,_,_,_,_,h=>absurd h (Nat.not_lt_zero _)
 | n+1,x,y,s,hx,hy,h=>by
  unfold whl
  have e:cB (mBin opNe (mv 1) (mc (.int 0))) [some (.int x),some (.int y)] s=.ok (!decide (y=0)) s:=rfl
  rw[e,bindS_ok]
  by_cases h0:y=0
  ·subst h0
   rw[if_neg (by simp)]
   rw[show ig x 0=x by show((Int.gcd x 0:Nat):Int)=x;rw[Int.gcd_zero_right];omega]
  ·have hy1:0 < y:=by omega
   obtain⟨m1,m2⟩:=fmod_nn hx hy1
   rw[if_pos (by simpa using h0)]
   have e2:sPar 0 1 (pCons (mv 1) (pCons (mBin opMod (mv 0) (mv 1)) pNil)) [some (.int x),some (.int y)] s=.nx [some (.int y),some (.int (x.fmod y))] s:=by
    have e3:opMod (.int x) (.int y) s=.ok (.int (x.fmod y)) s:=if_pos h0
    show((opMod (.int x) (.int y) s).bind _ |>.bind _).bindS _=_
    rw[e3];rfl
   rw[e2]
   show whl _ _ n _ s=_
   rw[gcd_loop n y (x.fmod y) s hy m1 (by omega),ig_fmod hy1]
theorem ig_abs (a b:Int):ig (if a < 0 then -a else a) (if b < 0 then -b else b)=ig a b:=by
 show((Int.gcd _ _:Nat):Int)=((Int.gcd a b:Nat):Int)
 congr 1
 split<;>split<;>simp[Int.gcd_neg,Int.neg_gcd]
theorem gcd_eq (a b:Int)(s:S):f_greatest_divisor [.int a,.int b] s=.ok (.int (ig a b)) s:=by
 apply R.wp.eq
 unfold f_greatest_divisor b_greatest_divisor
 have e:∀ x y:Int,fuel1 [some (AV.int x),some (AV.int y)]=y.natAbs+1:=λ _ _=>rfl
 simp only[↓WS,↓WE,↓WV,Lq,len_sz,UU,Nat.reduceSub,↓reduceIte,↓wp_whl,e]
 rw[wpeS (gcd_loop _ _ _ s (by split<;>omega) (by split<;>omega) (Nat.lt_succ_self _)),ig_abs]
 walk_at "w"
theorem ig_ne {a b:Int}(h:b≠0):ig a b≠0:=by have:=gcd_pos (t:=a) h;show((Int.gcd a b:Nat):Int)≠0;omega
theorem fit_ig_r {a b:Int}{n:Nat}(h:b≠0)(f:Fit n b):Fit n (ig a b):=f.le (by
 show((Int.gcd a b:Nat):Int).natAbs<=_
 rw[Int.natAbs_natCast]
 exact Nat.le_of_dvd (by omega) (Int.gcd_dvd_natAbs_right a b))
inductive Wlk (s:S):AV->List AV->Gd->Prop
 | tup (xs:List AV):Wlk s (.tup xs) xs []
 | ref {i:Nat}{xs:List AV}(h:lstO s i=some xs):Wlk s (.ref i) xs [(i,xs)]
theorem Wlk.src {s:S}{v:AV}{xs:List AV}{gs:Gd}(h:Wlk s v xs gs):walkO v s=.ok (xs,gs) s:=by
 cases h with
 | tup=>rfl
 | ref h=>show need (lstO s _) _=_;rw[h];rfl
inductive Rw where
 | of (n:Str) (q:Rat)|steps (n:Str) (us:List (Int × Rat)) (z:Rat)|left (n:Str) (q:Rat)|len (n:Str) (k:Int)
def stE (p:Int × Rat):AV:=.tup [.int p.1,fq p.2]
def rv:Rw->AV
 | .of n q=>.tup [.str "of",.str n,fq q]
 | .steps n us z=>.tup [.str "steps",.str n,.tup (us.map stE++[.tup [.non,fq z]])]
 | .left n q=>.tup [.str "left",.str n,fq q]
 | .len n k=>.tup [.str "length",.str n,.int k]
theorem SD:((("steps":Str)="of")=False)/\((("left":Str)="of")=False)/\((("length":Str)="of")=False)/\
  ((("of":Str)="steps")=False)/\((("left":Str)="steps")=False)/\((("length":Str)="steps")=False)/\
  ((("of":Str)="left")=False)/\((("steps":Str)="left")=False)/\((("length":Str)="left")=False)/\
  ((("of":Str)="length")=False)/\((("steps":Str)="length")=False)/\((("left":Str)="length")=False):=by
 refine⟨?_,?_,?_,?_,?_,?_,?_,?_,?_,?_,?_,?_⟩<;>exact eq_false (by decide +kernel)
theorem lst_new (s:S)(xs:List AV):lstO (s++[.lst xs]) s.length=some xs:=by
 unfold lstO;simp
theorem isL_new (s:S)(xs:List AV):(isTy "list" (.ref s.length) (s++[.lst xs])).isSome=true:=by
 show((lstO (s++[.lst xs]) s.length).map λ _=>()).isSome=true
 rw[lst_new];rfl
theorem gok1 {s:S}{i:Nat}{xs:List AV}(h:lstO s i=some xs):gOk [(i,xs)] s:=by
 intro p hp;cases hp with
 | head=>exact h
 | tail _ hp=>cases hp
end Ro
namespace Mm
open PySem L2
mutual
theorem AV.low.mono {b c:Nat}(h:b<=c):∀ {v:AV},v.low b=true->v.low c=true
 | .ref i,k=>by simp only[AV.low,decide_eq_true_eq]at k ⊢;omega
 | .tup xs,k=>by simp only[AV.low]at k ⊢;exact lowL.mono h k
 | .sq xs,k=>by simp only[AV.low]at k ⊢;exact lowL.mono h k
 | .non,_=>by simp only[AV.low]
 | .bl _,_=>by simp only[AV.low]
 | .int _,_=>by simp only[AV.low]
 | .str _,_=>by simp only[AV.low]
theorem lowL.mono {b c:Nat}(h:b<=c):∀ {l:List AV},lowL b l=true->lowL c l=true
 | [],_=>by simp only[lowL]
 | v :: r,k=>by
  simp only[lowL,Bool.and_eq_true]at k ⊢
  exact⟨AV.low.mono h k.1,lowL.mono h k.2⟩
end
theorem AO.low.mono {b c:Nat}(h:b<=c){o:AO}(k:o.low b=true):o.low c=true:=by
 cases o<;>first|exact lowL.mono h k|rfl
def Cl (s:S):Prop:=s.all (AO.low s.length)=true
theorem Cl.add {s e:S}(h:Cl s)(k:e.all (AO.low (s.length+e.length))=true):Cl (s++e):=by
 unfold Cl at *
 rw[List.all_append,List.length_append,k,Bool.and_true]
 rw[List.all_eq_true]at h ⊢
 exact λ o ho=>AO.low.mono (by omega) (h o ho)
theorem Cl.set {s:S}{i:Nat}{o:AO}(h:Cl s)(k:o.low s.length=true):Cl (s.set i o):=by
 unfold Cl at *
 rw[List.length_set]
 rw[List.all_eq_true]at h ⊢
 intro x hx
 rcases List.mem_or_eq_of_mem_set hx with hx|rfl
 ·exact h x hx
 ·exact k
theorem lstO_app {s e:S}{k:Nat}{xs:List AV}(h:lstO s k=some xs):lstO (s++e) k=some xs:=by
 have:=lstO_inv h
 refine lstO_of ?_
 have hk:k < s.length:=(List.getElem?_eq_some_iff.mp this).1
 rw[List.getElem?_append_left hk];exact this
end Mm
namespace Ro
open PySem L2 Mm
theorem low_fq (b:Nat)(q:Rat):(fq q).low b=true:=by simp[fq,AV.low,lowL]
end Ro
namespace Mm
open PySem L2
end Mm
namespace Ro
open PySem L2 Mm
theorem low_loop (A B C:Option AV):∀ (n:Nat) (x y:Int) (s:S),0<=x->0<=y->y.natAbs < n->
  whl (cB (mBin opGt (mv 4) (mc (.int 0)))) (sPar 3 4 (pCons (mv 4) (pCons (mBin opMod (mv 3) (mv 4)) pNil))) n [A,B,C,some (.int x),some (.int y)] s=.nx [A,B,C,some (.int (ig x y)),some (.int 0)] s
 | 0,_,_,_,_,_,h=>absurd h (Nat.not_lt_zero _)
 | n+1,x,y,s,hx,hy,h=>by
  unfold whl
  have e:cB (mBin opGt (mv 4) (mc (.int 0))) [A,B,C,some (.int x),some (.int y)] s=.ok (decide (0 < y)) s:=rfl
  rw[e,bindS_ok]
  by_cases h0:y=0
  ·subst h0
   rw[if_neg (by simp)]
   rw[show ig x 0=x by show((Int.gcd x 0:Nat):Int)=x;rw[Int.gcd_zero_right];omega]
  ·have hy1:0 < y:=by omega
   obtain⟨m1,m2⟩:=fmod_nn hx hy1
   rw[if_pos (by simpa using hy1)]
   have e2:sPar 3 4 (pCons (mv 4) (pCons (mBin opMod (mv 3) (mv 4)) pNil)) [A,B,C,some (.int x),some (.int y)] s=.nx [A,B,C,some (.int y),some (.int (x.fmod y))] s:=by
    have e3:opMod (.int x) (.int y) s=.ok (.int (x.fmod y)) s:=if_pos h0
    show((opMod (.int x) (.int y) s).bind _ |>.bind _).bindS _=_
    rw[e3];rfl
   rw[e2]
   show whl _ _ n _ s=_
   rw[low_loop A B C n y (x.fmod y) s hy m1 (by omega),ig_fmod hy1]
theorem fuelL_eq (A B C X:Option AV)(y:Int):fuelL [A,B,C,X,some (.int y)]=y.natAbs+1:=rfl
theorem lowest_eq {a b:Int}(s:S)(h:b≠0)(fb:Fit 9000 b)(fa:Fit 60000000 a):f__law_lowest [.int a,.int b] s=.ok (fq (Rat.divInt a b)) s:=by
 have e:=(low_fr a b h).trans (fr_rat (t:=a) h)
 have e1:((if b < 0 then -1 else 1) * a).fdiv (ig a b)=(Rat.divInt a b).num:=congrArg Prod.fst e
 have e2:((if b < 0 then -1 else 1) * b).fdiv (ig a b)=((Rat.divInt a b).den:Int):=congrArg Prod.snd e
 have g:=ig_ne (a:=a) h
 have fg:Mid (ig a b):=mid_of (fit_ig_r h fb) (Nat.le_refl _)
 have bs:∀ c:Prop,[Decidable c]->Big (if c then -1 else 1):=λ c _=>by
  split
  ·exact big_of (n:=1) (by show(-1:Int).natAbs < 2 ^ 1;decide) (by decide)
  ·exact big_of (n:=1) (by show(1:Int).natAbs < 2 ^ 1;decide) (by decide)
 have bb:Big b:=⟨fb.mono (by decide)⟩
 have ba:Big a:=⟨fa⟩
 apply R.wp.eq
 unfold f__law_lowest b__law_lowest
 simp only[↓WS,↓WE,↓WV,Lq,len_sz,UU,Nat.reduceSub,↓reduceIte,↓wp_whl,fuelL_eq]
 rw[wpeS (low_loop _ _ _ _ _ _ s (by split<;>omega) (by split<;>omega) (Nat.lt_succ_self _)),ig_abs]
 walk_at "w"
 by_cases c:b < 0
 ·simp only[c,if_true]at e1 e2 ⊢
  have b1:=bs True
  rw[if_pos trivial]at b1
  refine⟨⟨b1,ba⟩,⟨g,fg⟩,⟨b1,bb⟩,⟨g,fg⟩,?_⟩
  rw[e1,e2];rfl
 ·simp only[c,if_false]at e1 e2 ⊢
  have b1:=bs False
  rw[if_neg (λ z=>z)]at b1
  refine⟨⟨b1,ba⟩,⟨g,fg⟩,⟨b1,bb⟩,⟨g,fg⟩,?_⟩
  rw[e1,e2];rfl
end Ro
namespace Mm
open PySem L2
theorem wp_gCons (a:Mt)(r:Mts)(v:AV)(w:List AV)(env:En)(s:S)(N:En->S->Prop)(T:AV->S->Prop):(gCons' a r (v :: w) env s).wp N T=(a v env s).wp (λ e s1=>(r w e s1).wp N T) T:=by
 show(match a v env s with|.nx e s1=>r w e s1|q=>q).wp N _=_
 cases a v env s<;>rfl
theorem wp_gSubL (o i:Ev)(v:AV)(env:En)(s:S)(N:En->S->Prop)(T:AV->S->Prop):(gSubL o i v env s).wp N T=(o env s).wp λ a s1=>(i env s1).wp λ b s2=>(match a,b with
 | .ref k,.int j=>match lstO s2 k with
  | some xs=>match ixN xs.length j with
   | some n=>RS.nx env (s2.set k (.lst (xs.set n v)))
   | none=>.bad
  | none=>.bad
 | _,_=>.bad).wp N T:=by
 unfold gSubL;rw[wp_bindS];congr 1;funext a s1;rw[wp_bindS]
 try rfl
end Mm
namespace Ro
open PySem L2 Mm
theorem kneA:¬ ((.inr "cells":Key)=.inr "turn"):=λ z=>kne (Sum.inr.inj z)
def drD (c:Nat)(t:Int):List (Key × AV):=[(.inr "cells",.ref c),(.inr "turn",.int t)]
theorem dr_cells (c:Nat)(t:Int):valA (drD c t) (.inr "cells")=some (.ref c):=if_pos rfl
theorem dr_turn (c:Nat)(t:Int):valA (drD c t) (.inr "turn")=some (.int t):=by
 unfold drD valA
 rw[if_neg kneA]
 exact if_pos rfl
theorem dr_put (c:Nat)(t u:Int):putA (drD c t) (.inr "turn") (.int u)=drD c u:=by
 unfold putA drD
 rw[if_pos (by simp)]
 simp only[List.map_cons,List.map_nil,if_neg kneA,if_true]
structure Dr (c d n:Nat)(s:S):Prop where
 ex:∃ (t:Int) (cells:List Int),s[d]? = some (.dK (drD c t))/\s[c]? = some (.lst (cells.map AV.int))/\cells≠[]/\0<=t/\t<=n
 cl:Cl s
structure Kp (c d:Nat)(s s':S):Prop where
 len:s'.length=s.length
 get:∀ i,i≠c->i≠d->s'[i]? = s[i]?
theorem Kp.refl (c d:Nat)(s:S):Kp c d s s:=⟨rfl,λ _ _ _=>rfl⟩
theorem Kp.trans {c d:Nat}{s s' s'':S}(h:Kp c d s s')(k:Kp c d s' s''):Kp c d s s'':=⟨k.len.trans h.len,λ i h1 h2=>(k.get i h1 h2).trans (h.get i h1 h2)⟩
theorem Dr.mono {c d n m:Nat}{s:S}(h:Dr c d n s)(k:n<=m):Dr c d m s:=by
 obtain⟨⟨t,cells,h1,h2,h3,h4,h5⟩,cl⟩:=h
 exact⟨⟨t,cells,h1,h2,h3,h4,by omega⟩,cl⟩
theorem Dr.ne {c d n:Nat}{s:S}(h:Dr c d n s):c≠d:=by
 obtain⟨⟨t,cells,h1,h2,_⟩,_⟩:=h
 rintro rfl
 rw[h1]at h2;cases h2
theorem Dr.ltc {c d n:Nat}{s:S}(h:Dr c d n s):c < s.length:=by
 obtain⟨⟨t,cells,h1,h2,_⟩,_⟩:=h
 exact(List.getElem?_eq_some_iff.mp h2).1
theorem Dr.ltd {c d n:Nat}{s:S}(h:Dr c d n s):d < s.length:=by
 obtain⟨⟨t,cells,h1,h2,_⟩,_⟩:=h
 exact(List.getElem?_eq_some_iff.mp h1).1
theorem Dr.app {c d n:Nat}{s e:S}(h:Dr c d n s)(k:Cl (s++e)):Dr c d n (s++e):=by
 have l1:=h.ltc
 have l2:=h.ltd
 obtain⟨⟨t,cells,h1,h2,h3⟩,cl⟩:=h
 exact⟨⟨t,cells,by rw[List.getElem?_append_left l2];exact h1,by rw[List.getElem?_append_left l1];exact h2,h3⟩,k⟩
theorem Dr.set {c d n i:Nat}{s:S}{o:AO}(h:Dr c d n s)(h1:i≠c)(h2:i≠d)(k:o.low s.length=true):Dr c d n (s.set i o):=by
 obtain⟨⟨t,cells,k1,k2,k3⟩,cl⟩:=h
 exact⟨⟨t,cells,by rw[List.getElem?_set_ne h2];exact k1,by rw[List.getElem?_set_ne h1];exact k2,k3⟩,cl.set k⟩
theorem low_ints (b:Nat):∀ l:List Int,lowL b (l.map AV.int)=true
 | []=>by simp[lowL]
 | i :: r=>by simp only[List.map_cons,lowL,low_ints b r];simp[AV.low]
theorem fitm {x m:Int}(h:0 < m)(k:m<=2147483648):Fit 31 (x.fmod m):=by
 have h1:=Int.fmod_nonneg_of_pos x h
 have h2:=Int.fmod_lt_of_pos x h
 exact fit_of_lt (by omega) (by omega)
theorem fitI {n:Nat}{i:Int}(h:0<=i)(k:i < 2 ^ n):Fit n i:=fit_of_lt (by omega) k
theorem take_wp {c d n:Nat}{s:S}(D:Dr c d n s)(hn:n<=1000000000){k:Int}(hk:0 < k)(fk:Fit 9000 k) :
  (f__law_take [.ref d,.int k] s).wp λ v s'=>∃ r,v=.int r/\0<=r/\r < k/\Dr c d (n+1) s'/\Kp c d s s':=by
 have lc:=D.ltc
 have ld:=D.ltd
 have ne:=D.ne
 obtain⟨⟨t,cells,h1,h2,h3,h4,h5⟩,cl⟩:=D
 have e0:dKO s d=some (drD c t):=by unfold dKO;rw[h1]
 have g1:opDget (.ref d) (.str "turn") s=.ok (.int t) s:=by
  show(need (dKO s d) λ kvs=>need (keyO (.str "turn")) λ k=>need (valA kvs k) λ v=>R.ok v s)=_
  rw[e0,need_some]
  rw[show keyO (.str "turn")=some (.inr "turn") from rfl,need_some,dr_turn];rfl
 let s1:=s.set d (.dK (drD c (t+1)))
 have p1:∀ env,putD (.int (t+1)) (.ref d) (.str "turn") env s=.nx env s1:=λ env=>by
  show(match dKO s d,keyO (.str "turn") with
   | some kvs,some k=>if kvs.length < sizeLine then RS.nx env (s.set d (.dK (putA kvs k (.int (t+1))))) else .bad
   | _,_=>.bad)=_
  rw[e0]
  show(if (drD c t).length < sizeLine then RS.nx env (s.set d (.dK (putA (drD c t) (.inr "turn") (.int (t+1))))) else .bad)=_
  rw[if_pos (small1000 (by show(2:Nat)<=1000;omega)),dr_put]
 have e1:s1[d]? = some (.dK (drD c (t+1))):=List.getElem?_set_self ld
 have e2:s1[c]? = some (.lst (cells.map AV.int)):=by show(s.set d _)[c]? = _;rw[List.getElem?_set_ne (Ne.symm ne)];exact h2
 have l1:lstO s1 c=some (cells.map AV.int):=lstO_of e2
 have cl1:Cl s1:=cl.set (by simp[AO.low,drD,lowL,AV.low,lc])
 have kp1:Kp c d s s1:=⟨List.length_set,λ i _ hi=>List.getElem?_set_ne (Ne.symm hi)⟩
 have g2:opDget (.ref d) (.str "cells") s1=.ok (.ref c) s1:=by
  show(need (dKO s1 d) λ kvs=>need (keyO (.str "cells")) λ k=>need (valA kvs k) λ v=>R.ok v s1)=_
  rw[show dKO s1 d=some (drD c (t+1)) by unfold dKO;rw[e1],need_some]
  rw[show keyO (.str "cells")=some (.inr "cells") from rfl,need_some,dr_cells];rfl
 have hl0:0 < cells.length:=List.length_pos_iff.mpr h3
 have lenE:opLen [.ref c] s1=.ok (.int cells.length) s1:=by
  show(need (lstO s1 c) λ xs=>R.ok (AV.int xs.length) s1)=_
  rw[l1,need_some,List.length_map]
 have hl1:(0:Int) < cells.length:=by omega
 have j0:=Int.fmod_nonneg_of_pos (t+1) hl1
 have j1:=Int.fmod_lt_of_pos (t+1) hl1
 obtain⟨j,ej⟩:∃ j:Nat,(t+1).fmod cells.length=j:=⟨((t+1).fmod cells.length).toNat,by omega⟩
 have hj:j < cells.length:=by omega
 have ix:atI (cells.map AV.int) (j:Int)=some (.int cells[j]):=atI_nat (by rw[List.getElem?_map,List.getElem?_eq_getElem hj];rfl)
 have ixn:ixN (cells.map AV.int).length (j:Int)=some j:=by
  unfold ixN
  rw[List.length_map,if_pos (by omega),if_pos (by omega)];rfl
 unfold f__law_take b__law_take
 have gE:opIx (.ref c) (.int j) s1=.ok (.int cells[j]) s1:=by
  show(need (lstO s1 c) λ xs=>need (atI xs j) λ v=>R.ok v s1)=_
  rw[l1,need_some,ix];rfl
 have hpow:(10:Int) ^ (18:Int).toNat=1000000000000000000:=pw18
 have T1:Fit 31 (t+1):=fitI (by omega) (by omega)
 simp only[↓WS,↓WE,↓WV,Lq,len_sz,UU,Nat.reduceSub,↓reduceIte,↓wpe g1,↓wpeS (p1 _),↓wpe g2,↓wpe lenE,ej,↓wpe gE,hpow]
 refine⟨by omega,⟨by omega,by omega,by decide⟩,?_⟩
 split
 ·simp only[↓WS,↓WE,↓WV,Lq,len_sz,UU,Nat.reduceSub,↓reduceIte,↓wp_gCons,↓wp_gSubL,↓wpe g2,l1,ixn]
  refine⟨⟨hk,⟨fk⟩⟩,_,rfl,Int.emod_nonneg _ (by omega),Int.emod_lt_of_pos _ hk,⟨⟨t+1,cells.set j (cells[j] / k),?_,?_,?_,by omega,by omega⟩,?_⟩,?_⟩
  ·rw[List.getElem?_set_ne ne];exact e1
  ·rw[List.getElem?_set_self (by show c < s1.length;rw[kp1.len];exact lc),List.map_set]
  ·intro z
   have:=congrArg List.length z
   rw[List.length_set,List.length_nil]at this;omega
  ·refine cl1.set ?_
   rw[<-List.map_set]
   exact low_ints _ _
  ·exact⟨by rw[List.length_set];exact kp1.len,λ i q1 q2=>by rw[List.getElem?_set_ne (Ne.symm q1)];exact kp1.get i q1 q2⟩
 ·have F1:Fit 31 (cells[j].fmod 2147483629):=fitm (by omega) (by omega)
  have c79:Fit 13 (7919:Int):=fitI (by omega) (by omega)
  have c48:Fit 16 (48271:Int):=fitI (by omega) (by omega)
  have c10:Fit 17 (104729:Int):=fitI (by omega) (by omega)
  have c39:Fit 16 (39373:Int):=fitI (by omega) (by omega)
  have F2:=T1.mul T1
  have F3:=F2.mul c79
  have F4:Fit 76 (cells[j].fmod 2147483629+(t+1) * (t+1) * 7919):=Fit.add (n:=75) (F1.mono (by omega)) (F3.mono (by omega))
  have F5:Fit 77 (cells[j].fmod 2147483629+(t+1) * (t+1) * 7919+11):=Fit.add F4 (fitI (by omega) (by omega))
  have F6:∀ x:Int,Fit 49 (x.fmod 2147483587+(t+1) * 104729):=λ x=>Fit.add (n:=48) ((fitm (by omega) (by omega)).mono (by omega)) ((T1.mul c10).mono (by omega))
  have bg:∀ {n:Nat}{i:Int},Fit n i->n<=100->Big i:=λ h k=>big_of h (by omega)
  refine⟨by decide,⟨bg T1 (by omega),bg T1 (by omega)⟩,⟨bg F2 (by omega),bg c79 (by omega)⟩,⟨bg F5 (by omega),bg c48 (by omega)⟩,by decide,⟨bg (fitm (by omega) (by omega)) (by omega),bg (fitm (by omega) (by omega)) (by omega)⟩,by decide,⟨bg T1 (by omega),bg c10 (by omega)⟩,⟨bg (F6 _) (by omega),bg c39 (by omega)⟩,by decide,⟨by decide,mid_of (n:=7) (fitI (by omega) (by omega)) (by omega)⟩,by omega,_,rfl,Int.fmod_nonneg_of_pos _ hk,Int.fmod_lt_of_pos _ hk,⟨⟨t+1,cells,e1,e2,h3,by omega,by omega⟩,cl1⟩,kp1⟩
theorem flat_toD {s:S}{n:Nat}:∀ {v:AV},flatA v=true->∃ d,toD n s v=some d/\d.dep=0
 | .non,_=>⟨.non,by unfold toD;rfl,by simp[Dt.dep]⟩
 | .bl b,_=>⟨.bl b,by unfold toD;rfl,by simp[Dt.dep]⟩
 | .int b,_=>⟨.int b,by unfold toD;rfl,by simp[Dt.dep]⟩
 | .str b,_=>⟨.str b,by unfold toD;rfl,by simp[Dt.dep]⟩
theorem flats_toD {s:S}{n:Nat}:∀ {l:List AV},l.all flatA=true->∃ ds,l.mapM (toD n s)=some ds/\ds.length=l.length/\depL ds=0
 | [],_=>⟨[],rfl,rfl,by simp[depL]⟩
 | v :: r,h=>by
  rw[List.all_cons,Bool.and_eq_true]at h
  obtain⟨d,e1,e2⟩:=flat_toD (s:=s) (n:=n) h.1
  obtain⟨ds,e3,e4,e5⟩:=flats_toD (s:=s) (n:=n) h.2
  exact⟨d :: ds,by rw[List.mapM_cons,e1,e3];rfl,by simp[e4],by simp[depL,e2,e5]⟩
theorem eqAV_nil {s:S}{i j:Nat}{xs:List AV}(h1:lstO s i=some xs)(h2:lstO s j=some [])(hf:xs.all flatA=true):eqAV s (.ref i) (.ref j)=some xs.isEmpty:=by
 obtain⟨ds,e1,e2,e3⟩:=flats_toD (s:=s) (n:=19) hf
 have t1:toD 20 s (.ref i)=some (.lst ds):=by
  simp only[toD,h1,Option.bind_some,e1,Option.map_some]
 have t2:toD 20 s (.ref j)=some (.lst []):=by
  simp only[toD,h2,Option.bind_some,List.mapM_nil];rfl
 unfold eqAV
 simp only
 rw[t1,t2]
 dsimp only
 rw[if_pos (by omega)]
 congr 1
 cases xs with
 | nil=>cases ds with
  | nil=>simp[eqDL]
  | cons=>cases e2
 | cons=>cases ds with
  | nil=>cases e2
  | cons=>simp[eqDL]
theorem flat_ints:∀ l:List Int,(l.map AV.int).all flatA=true
 | []=>rfl
 | i :: r=>by rw[List.map_cons,List.all_cons,flat_ints r];rfl
theorem begin_wp (ns:List Int):(f__law_begin [.sq (ns.map AV.int)] []).wp λ v s'=>∃ c d,v=.ref d/\Dr c d 0 s':=by
 obtain⟨ms,em⟩:∃ ms:List Int,cutA (ns.map AV.int) none (some 63)=ms.map AV.int:=by
  refine⟨cutA ns none (some 63),?_⟩
  unfold cutA;rw[List.length_map,<-List.map_drop,<-List.map_take]
 have e1:opSl (.sq (ns.map AV.int)) none (some 63) []=.ok (.ref 0) [.lst (ms.map AV.int)]:=by
  show R.ok _ ([]++[AO.lst (cutA (ns.map AV.int) none (some 63))])=_
  rw[em];rfl
 have e2:items (.ref 0) [.lst (ms.map AV.int)]=some (ms.map AV.int):=rfl
 have e3:opEq (.ref 1) (.ref 2) [.lst (ms.map AV.int),.lst (ms.map AV.int),.lst []]=.ok (.bl (ms.map AV.int).isEmpty) [.lst (ms.map AV.int),.lst (ms.map AV.int),.lst []]:=by
  unfold opEq;rw[eqAV_nil (xs:=ms.map AV.int) rfl rfl (flat_ints ms)];rfl
 have ed:∀ (env:En) (s:S) (k:Nat) (x:Option AV),mDisp [((mc (.str "cells")),(mv 1)),((mc (.str "turn")),(mc (.int 0)))] [x,some (.ref k)] s=.ok (.ref s.length) (s++[.dK (drD k 0)]):=by
  intro env s k x
  unfold mDisp prs prs prs
  simp only[mc,mv,bind_ok,Lq,keysO,keyO,Option.bind_some,Option.map_some,need_some]
  rw[if_pos (by show(2:Nat)<=15;omega)]
  congr 1
 unfold f__law_begin b__law_begin
 simp only[↓WS,↓WE,↓WV,Lq,len_sz,UU,Nat.reduceSub,↓reduceIte,↓wpe e1,e2,qList,List.length_cons,List.length_nil,Nat.reduceAdd,List.cons_append,List.nil_append,↓wpe e3,List.take_succ_cons,List.take_zero,Nat.zero_le,show(1<=sizeLine)=True from eq_true (szl (by omega))]
 cases ms with
 | nil=>
  simp only[List.map_nil,List.isEmpty_nil,if_true,↓wpe (ed [] _ _ _)]
  refine⟨2,_,rfl,⟨⟨0,[7],rfl,rfl,by simp,by omega,by omega⟩,rfl⟩⟩
 | cons m r=>
  simp only[List.map_cons,List.isEmpty_cons,Bool.false_eq_true,if_false,↓wpe (ed [] _ _ _)]
  refine⟨1,_,rfl,⟨⟨0,m :: r,rfl,rfl,by simp,by omega,by omega⟩,?_⟩⟩
  simp[Cl,AO.low,lowL,AV.low,low_ints,drD]
theorem fit9 {k:Int}(h:0 < k)(l:k < 1048576):Fit 9000 k:=(fitI (n:=20) (by omega) (by omega)).mono (by omega)
theorem wp_srcR (m:Ev)(env:En)(s:S)(Q:List AV × Gd->S->Prop):(srcR (pCons m pNil) env s).wp Q=(m env s).wp λ v s1=>match v with|.int j=>(-(2 ^ 62)<=j/\j < 2 ^ 62)/\Q (rngA 0 j.toNat,[]) s1|_=>False:=by
 unfold srcR pCons pNil
 simp only[wp_bind,wp_ok]
 congr 1
 funext v s1
 cases v<;>first|rfl|exact wp_if _ _ _
structure Gk (c d:Nat)(s s':S):Prop where
 len:s.length<=s'.length
 get:∀ i,i < s.length->i≠c->i≠d->s'[i]? = s[i]?
theorem Kp.gk {c d:Nat}{s s':S}(h:Kp c d s s'):Gk c d s s':=⟨by rw[h.len];exact Nat.le_refl _,λ i _ h1 h2=>h.get i h1 h2⟩
theorem Gk.refl (c d:Nat)(s:S):Gk c d s s:=(Kp.refl c d s).gk
theorem Gk.app (c d:Nat)(s e:S):Gk c d s (s++e):=⟨by simp,λ i hi _ _=>List.getElem?_append_left hi⟩
theorem Gk.trans {c d:Nat}{s s' s'':S}(h:Gk c d s s')(k:Gk c d s' s''):Gk c d s s'':=⟨Nat.le_trans h.len k.len,λ i hi h1 h2=>(k.get i (Nat.lt_of_lt_of_le hi h.len) h1 h2).trans (h.get i hi h1 h2)⟩
theorem Gk.lst {c d n i:Nat}{s s':S}{xs:List AV}(h:Gk c d s s')(h1:i≠c)(h2:i≠d)(k:lstO s i=some xs):lstO s' i=some xs:=by
 have e:=lstO_inv k
 exact lstO_of ((h.get i (List.getElem?_eq_some_iff.mp e).1 h1 h2).trans e)
theorem Gk.set {c d i:Nat}{s s':S}{o:AO}(h:Gk c d s s')(hi:s.length<=i):Gk c d s (s'.set i o):=⟨by rw[List.length_set];exact h.len,λ j hj h1 h2=>by rw[List.getElem?_set_ne (by omega)];exact h.get j hj h1 h2⟩
theorem Gk.cut {c d n m:Nat}{s s':S}(h:Gk c d s s')(D:Dr c d n s)(D':Dr c d m s'):Dr c d m (s'.take s.length)/\Kp c d s (s'.take s.length)/\(s'.take s.length).all (AO.low s.length)=true:=by
 have lc:=D.ltc
 have ld:=D.ltd
 have el:(s'.take s.length).length=s.length:=by rw[List.length_take];have:=h.len;omega
 have eg:∀ i,i < s.length->(s'.take s.length)[i]? = s'[i]?:=λ i hi=>List.getElem?_take_of_lt hi
 have cl:=D.cl
 obtain⟨⟨t,cells,h1,h2,h3,h4,h5⟩,cl'⟩:=D'
 have all:(s'.take s.length).all (AO.low s.length)=true:=by
  rw[List.all_eq_true]
  intro o ho
  obtain⟨i,hi,e⟩:=List.mem_iff_getElem.mp ho
  rw[el]at hi
  have e':(s'.take s.length)[i]? = some o:=by rw[List.getElem?_eq_getElem (by rw[el];exact hi)];rw[e]
  rw[eg i hi]at e'
  by_cases c1:i=c
  ·subst c1;rw[h2]at e';cases e';exact low_ints _ _
  by_cases c2:i=d
  ·subst c2;rw[h1]at e';cases e';simp[AO.low,drD,lowL,AV.low,lc]
  rw[h.get i hi c1 c2]at e'
  have:=List.all_eq_true.mp (show s.all (AO.low s.length)=true from cl) o (List.mem_of_getElem? e')
  exact this
 refine⟨⟨⟨t,cells,by rw[eg d ld];exact h1,by rw[eg c lc];exact h2,h3,h4,h5⟩,?_⟩,⟨el,λ i c1 c2=>?_⟩,all⟩
 ·unfold Cl;rw[el];exact all
 ·by_cases hi:i < s.length
  ·rw[eg i hi];exact h.get i hi c1 c2
  ·rw[List.getElem?_eq_none (by rw[el];omega),List.getElem?_eq_none (by omega)]
theorem ix_at {s:S}{i:Nat}{xs:List AV}{j:Int}(h:lstO s i=some xs)(h0:0<=j)(h1:j < xs.length):∃ v,v∈xs/\opIx (.ref i) (.int j) s=.ok v s:=by
 obtain⟨n,rfl⟩:∃ n:Nat,j=n:=⟨j.toNat,by omega⟩
 have hn:n < xs.length:=by omega
 refine⟨xs[n],List.getElem_mem hn,?_⟩
 show(need (lstO s i) λ xs=>need (atI xs n) λ v=>R.ok v s)=_
 rw[h,need_some,atI_nat (List.getElem?_eq_getElem hn)];rfl
theorem lowest60 {a b:Int}(s:S)(h1:0<=a)(h2:a<=1000)(h3:0 < b)(h4:b<=1000):f__law_lowest [.int a,.int b] s=.ok (fq (Rat.divInt a b)) s:=lowest_eq s (by omega) ((fitI (n:=20) (by omega) (by omega)).mono (by omega)) ((fitI (n:=20) (by omega) (by omega)).mono (by omega))
theorem low_st (b:Nat):∀ l:List (Int × Rat),lowL b (l.map stE)=true
 | []=>by simp[lowL]
 | p :: r=>by simp only[List.map_cons,lowL,low_st b r];simp[stE,fq,AV.low,lowL]
theorem lowL_app (b:Nat):∀ (l m:List AV),lowL b (l++m)=(lowL b l && lowL b m)
 | [],m=>by simp[lowL]
 | v :: r,m=>by rw[List.cons_append];simp only[lowL,lowL_app b r m,Bool.and_assoc]
theorem low_rv (b:Nat):∀ r:Rw,(rv r).low b=true
 | .of n q=>by simp[rv,AV.low,lowL,low_fq]
 | .left n q=>by simp[rv,AV.low,lowL,low_fq]
 | .len n q=>by simp[rv,AV.low,lowL]
 | .steps n us z=>by simp[rv,AV.low,lowL,lowL_app,low_st,low_fq]
theorem pick_wp {c d n:Nat}{s:S}(D:Dr c d n s)(hn:n<=900001000){xs:List AV}{m:Int}(hm:m=xs.length)(hm0:0 < m)(hm1:m<=10){P:Int->Prop}(hx:∀ v∈xs,∃ b,v=.int b/\P b) :
  (f__law_take [.ref d,.int m] (s++[.lst xs])).wp λ v s2=>∃ b,opIx (.ref s.length) v s2=.ok (.int b) s2/\P b/\(s2.take s.length).all (AO.low s.length)=true/\Dr c d (n+1) (s2.take s.length)/\Kp c d s (s2.take s.length):=by
 have lx:∀ b,lowL b xs=true:=λ b=>by
  clear hm hm0 hm1
  induction xs with
  | nil=>simp[lowL]
  | cons v r ih=>
   obtain⟨i,rfl,_⟩:=hx v (.head _)
   simp only[lowL,ih λ v hv=>hx v (.tail _ hv)];simp[AV.low]
 have D1':=D.app (e:=[.lst xs]) (D.cl.add (by simp[AO.low,lx]))
 refine(take_wp D1' (by omega) (by omega) (fit9 (by omega) (by omega))).mono ?_
 rintro _ s2 ⟨j,rfl,j0,j1,D2,K2⟩
 obtain⟨v,hv,ev⟩:=ix_at (s:=s2) (i:=s.length) (j:=j) (K2.gk.lst (n:=0) (by have:=D.ltc;omega) (by have:=D.ltd;omega) (lst_new s _)) j0 (by omega)
 obtain⟨b,rfl,hb⟩:=hx v hv
 obtain⟨D3,K3,al⟩:=((Gk.app c d s _).trans K2.gk).cut D D2
 exact⟨b,ev,hb,al,D3,K3⟩
theorem append_at {s:S}{i:Nat}{xs:List AV}{v:AV}(h:lstO s i=some xs)(hl:xs.length < sizeLine):opAppend (.ref i) [v] s=.ok .non (s.set i (.lst (xs++[v]))):=by
 unfold opAppend
 simp only[h,need_some,if_pos hl]
theorem isL_at {s:S}{i:Nat}{xs:List AV}(h:lstO s i=some xs):(isTy "list" (.ref i) s).isSome=true:=by
 show((lstO s i).map λ _=>()).isSome=true
 rw[h];rfl
theorem lst_set {s:S}{i:Nat}{xs ys:List AV}(h:lstO s i=some xs):lstO (s.set i (.lst ys)) i=some ys:=by
 refine lstO_of (List.getElem?_set_self ?_)
 exact(List.getElem?_eq_some_iff.mp (lstO_inv h)).1
def txt24:Str:="b aa zebra c quartzes ab m knows d mm likes z ba abcdefgh y zz e x f g hh jj kk pave"
open PySem.Builtin.Str in
def nm24:List Str:=partsBetween txt24 (occurrences txt24 " " 0 txt24.length (txt24.length+1)) (" ":Str).length
theorem nm24_len:nm24.length=24:=by decide +kernel
open PySem.Builtin.Str in
theorem nm24_ok:(decide (txt24.length < (" ":Str).length) || decide (PySem.Builtin.Str.strKind txt24 < PySem.Builtin.Str.strKind (" ":Str)))=false/\((" ":Str).length == 0)=false/\(occurrences txt24 " " 0 txt24.length (txt24.length+1)).isEmpty=false/\txt24.length<=1000/\(partsBetween txt24 (occurrences txt24 " " 0 txt24.length (txt24.length+1)) (" ":Str).length).length<=1000:=by decide +kernel
theorem split24 (s:S):opSplit (.str "b aa zebra c quartzes ab m knows d mm likes z ba abcdefgh y zz e x f g hh jj kk pave") [.str " "] s=.ok (nm24.map AV.str) s:=if_pos nm24_ok
theorem low_strs (b:Nat):∀ l:List Str,lowL b (l.map AV.str)=true
 | []=>by simp[lowL]
 | i :: r=>by simp only[List.map_cons,lowL,low_strs b r];simp[AV.low]
theorem len_at {s:S}{i:Nat}{xs:List AV}(h:lstO s i=some xs):opLen [.ref i] s=.ok (.int xs.length) s:=by
 show(need (lstO s i) λ xs=>R.ok (AV.int xs.length) s)=_
 rw[h];rfl
theorem er_map {α β:Type}(f:α->β):∀ (l:List α) (m:Nat),(l.map f).eraseIdx m=(l.eraseIdx m).map f
 | [],_=>rfl
 | a :: r,0=>rfl
 | a :: r,m+1=>by show f a :: (r.map f).eraseIdx m=f a :: (r.eraseIdx m).map f;rw[er_map f r m]
def nL:List Rw->Nat
 | []=>0
 | .left _ _ :: r=>nL r+1
 | .of _ _ :: r=>nL r
 | .steps _ _ _ :: r=>nL r
 | .len _ _ :: r=>nL r
def kdE:Rw->AV
 | .left _ _=>.str "left"
 | .of _ _=>.str "of"
 | .steps _ _ _=>.str "steps"
 | .len _ _=>.str "length"
theorem kd_left:eqV (toV (.str "left")) (toV (.str "left"))=true:=by decide +kernel
theorem kd_of:eqV (toV (.str "of")) (toV (.str "left"))=false:=by decide +kernel
theorem kd_steps:eqV (toV (.str "steps")) (toV (.str "left"))=false:=by decide +kernel
theorem kd_len:eqV (toV (.str "length")) (toV (.str "left"))=false:=by decide +kernel
theorem nL_eq:∀ rs:List Rw,(rs.map kdE).countP (λ z=>eqV (toV z) (toV (.str "left")))=nL rs
 | []=>rfl
 | r :: rs=>by
  rw[List.map_cons,List.countP_cons,nL_eq rs]
  cases r
  ·show _+(if eqV (toV (.str "of")) (toV (.str "left"))=true then 1 else 0)=nL rs;rw[kd_of];rfl
  ·show _+(if eqV (toV (.str "steps")) (toV (.str "left"))=true then 1 else 0)=nL rs;rw[kd_steps];rfl
  ·show _+(if eqV (toV (.str "left")) (toV (.str "left"))=true then 1 else 0)=nL rs+1;rw[kd_left];rfl
  ·show _+(if eqV (toV (.str "length")) (toV (.str "left"))=true then 1 else 0)=nL rs;rw[kd_len];rfl
theorem nL_app:∀ (a b:List Rw),nL (a++b)=nL a+nL b
 | [],b=>by simp[nL]
 | r :: a,b=>by rw[List.cons_append];have ih:=nL_app a b;cases r<;>(simp only[nL,ih];try omega)
theorem ne_nil {s:S}{i j:Nat}{xs:List AV}(h1:lstO s i=some xs)(h2:lstO s j=some [])(hf:xs.all flatA=true)(hx:xs≠[]):opNe (.ref i) (.ref j) s=.ok (.bl true) s:=by
 unfold opNe
 rw[eqAV_nil h1 h2 hf]
 cases xs with
 | nil=>exact(hx rfl).elim
 | cons=>rfl
theorem flat_strs:∀ l:List Str,(l.map AV.str).all flatA=true
 | []=>rfl
 | i :: r=>by rw[List.map_cons,List.all_cons,flat_strs r];rfl
theorem flat_kd:∀ l:List Rw,(l.map kdE).all flatA=true
 | []=>rfl
 | r :: l=>by rw[List.map_cons,List.all_cons,flat_kd l];cases r<;>rfl
theorem rv_kd (r:Rw)(s:S):opIx (rv r) (.int 0) s=.ok (kdE r) s:=by
 cases r<;>rfl
theorem low_rvs (b:Nat):∀ l:List Rw,lowL b (l.map rv)=true
 | []=>by simp[lowL]
 | r :: l=>by simp only[List.map_cons,lowL,low_rvs b l,low_rv];rfl
theorem kd_comp (rs:List Rw)(st:S)(L:Nat)(h:lstO st L=some (rs.map rv)) (Q:List AV->S->Prop):(compL (gN 0) cYes (mBin opIx (mv 0) (mc (.int 0))) [(L,rs.map rv)] (rs.map rv) [none] st []).wp Q=Q (rs.map kdE) st:=by
 refine wpe (R.wp.eq (comp_wp (λ xs acc env s=>s=st/\∃ r x,xs=r.map rv/\env=[x]/\acc++r.map kdE=rs.map kdE) ?_ ?_ ?_ _ _ _ _ ⟨rfl,rs,none,rfl,rfl,rfl⟩)) Q
 ·rintro _ _ _ st ⟨rfl,_⟩;exact gok1 h
 ·rintro acc env st ⟨rfl,r,x,e,rfl,h⟩
  cases r with
  | cons=>cases e
  | nil=>exact⟨by rw[<-h];simp,rfl⟩
 ·rintro v r acc env st ⟨rfl,r',x,e,rfl,h⟩
  cases r' with
  | nil=>cases e
  | cons p r'=>
   cases e
   simp only[↓WS,↓WE,↓WV,Lq,len_sz,UU,Nat.reduceSub,↓reduceIte,↓wpe (rv_kd p _)]
   exact⟨r',_,rfl,rfl,by rw[<-h];simp⟩
theorem count_new (rs:List Rw)(st:S):opCount (.ref st.length) [.str "left"] (st++[.lst (rs.map kdE)])=.ok (.int (nL rs)) (st++[.lst (rs.map kdE)]):=by
 show(need (lstO (st++[.lst (rs.map kdE)]) st.length) λ xs=>if flatA (.str "left")=true/\xs.all flatA=true then R.ok (AV.int ((xs.countP λ z=>eqV (toV z) (toV (.str "left")):Nat):Int)) (st++[.lst (rs.map kdE)]) else .bad)=_
 rw[lst_new,need_some,if_pos ⟨rfl,flat_kd rs⟩,nL_eq]
theorem TG:(isTag "int" "list"=false)/\(isTag "int" "tuple"=false)/\(isTag "int" "str"=false)/\(isTag "int" "int"=true)/\(isTag "int" "bool"=false)/\
  (isTag "str" "list"=false)/\(isTag "str" "tuple"=false)/\(isTag "str" "str"=true)/\
  (isTag "tuple" "list"=false)/\(isTag "tuple" "tuple"=true)/\(isTag "list" "list"=true)/\(isTag "list" "tuple"=false):=by
 refine⟨?_,?_,?_,?_,?_,?_,?_,?_,?_,?_,?_,?_⟩<;>decide +kernel
def leafOk (s:S)(v:AV):Prop:=(∃ t,tagOf v s=some t)/\match v with
 | .int i=>Fit 900 i
 | .str t=>t.cps.all (· < 128)=true/\t.length<=sizeLine
 | _=>True
def okD:Nat->S->AV->Prop
 | 0,s,v=>leafOk s v
 | n+1,s,v=>leafOk s v/\∀ xs,v=.tup xs->xs.length<=sizeLine/\∀ x∈xs,okD n s x
theorem okD.leaf:∀ {n:Nat}{s:S}{v:AV},okD n s v->leafOk s v
 | 0,_,_,h=>h
 | _+1,_,_,h=>h.1
def isNum:AV->Bool
 | .int _=>true
 | _=>false
def isFr:AV->Bool
 | .tup [.int a,.int b]=>decide (1<=b) && decide (ig a b=1)
 | _=>false
def smC (c:Nat):Bool:=decide (97<=c) && decide (c<=122)
def isNm:AV->Bool
 | .str t=>(decide (1<=t.length) && decide (t.length<=8)) && t.cps.toList.all smC
 | _=>false
theorem tag_ref {i:Nat}{s:S}{t:String}(h:tagOf (.ref i) s=some t):t="list"∨t="dict":=by
 simp only[tagOf]at h
 split at h<;>first|(cases h;simp)|cases h
theorem isi_eq {v:AV}{s:S}{t n:String}(h:tagOf v s=some t):opIsi n v s=.ok (.bl (isTag t n)) s:=by unfold opIsi;rw[h];rfl
theorem isnum_wp {v:AV}{s:S}(h:∃ t,tagOf v s=some t):mAnd (mUn (opIsi "int") (mv 0)) (mUn opNot (mUn (opIsi "bool") (mv 0))) [some v] s=.ok (.bl (isNum v)) s:=by
 obtain⟨t,h⟩:=h
 show((opIsi "int" v s).bind λ v s1=>_)=_
 rw[isi_eq h]
 show(match AV.bl (isTag t "int") with|.bl true=>((opIsi "bool" v s).bind λ w s2=>opNot w s2)|.bl false=>.ok (.bl false) s|_=>.bad)=_
 rw[isi_eq h]
 cases v with
 | ref i=>rcases tag_ref h with rfl|rfl<;>rfl
 | _=>cases h;rfl
theorem is_number_eq {v:AV}{s:S}(h:∃ t,tagOf v s=some t):f_is_number [v] s=.ok (.bl (isNum v)) s:=by
 unfold f_is_number b_is_number fnR sRet
 show(match (mAnd (mUn (opIsi "int") (mv 0)) (mUn opNot (mUn (opIsi "bool") (mv 0))) [some v] s).bindS (λ v s1=>RS.rt v s1) with|.rt v s1=>R.ok v s1|.nx _ s1=>.ok .non s1|.ex c s1=>.ex c s1|_=>.bad)=_
 rw[isnum_wp h];rfl
theorem comp_map {elt:Ev}{gs:Gd}{rest:En}{s:S}(g:AV->AV)(hg:gOk gs s):∀ (xs acc:List AV) (x:Option AV),(∀ v∈xs,elt (some v :: rest) s=.ok (g v) s)->compL (gN 0) cYes elt gs xs (x :: rest) s acc=.ok (acc++xs.map g) s
 | [],acc,x,_=>by unfold compL;rw[if_pos hg];simp
 | v :: r,acc,x,h=>by
  unfold compL
  rw[if_pos hg]
  show((elt (some v :: rest) s).calm.bind λ x s3=>compL (gN 0) cYes elt gs r (some v :: rest) s3 (acc++[x]))=_
  rw[h v (.head _)]
  show compL (gN 0) cYes elt gs r (some v :: rest) s (acc++[g v])=_
  rw[comp_map g hg r _ _ λ w hw=>h w (.tail _ hw)]
  simp
theorem blsO_map (f:AV->Bool):∀ xs:List AV,blsO (xs.map λ v=>.bl (f v))=some (xs.map f)
 | []=>rfl
 | v :: r=>by simp only[List.map_cons,blsO,blsO_map f r];rfl
theorem all_map {l:Lc}{src:Src}{elt:Ev}{env:En}{s:S}{xs:List AV}{gs:Gd}{rest:En}(f:AV->Bool)(e1:src env s=.ok (xs,gs) s) (hl:xs.length<=sizeLine)(hg:gOk gs s)(e2:srcE l env=none :: rest)(h:∀ v∈xs,elt (some v :: rest) s=.ok (.bl (f v)) s) :
  gOp qAll (lComp l src (gN 0) cYes elt) env s=.ok (.bl (xs.all f)) s:=by
 unfold gOp lComp
 rw[e1,bind_ok,if_pos hl,e2,comp_map (λ v=>.bl (f v)) hg xs [] none h]
 show(need (blsO (xs.map λ v=>.bl (f v))) λ ns=>R.ok (AV.bl (ns.all id)) s)=_
 rw[blsO_map]
 show R.ok (AV.bl ((xs.map f).all id)) s=_
 rw[List.all_map];rfl
theorem bind_ok' {α β:Type}(a:α)(s:S)(f:α->S->R β):(R.ok a s).bind f=f a s:=rfl
theorem gOk_nil (s:S):gOk [] s:=λ p hp=>nomatch hp
theorem if_ok {c:Eb}{b:Ms}{env:En}{s:S}{x:Bool}{v:AV}(h:c env s=.ok x s)(k:x=false->b env s=.rt v s):sSeq (sIf c (sRet (mc (.bl false))) sSkip) b env s=.rt (if x=true then .bl false else v) s:=by
 unfold sSeq sIf
 rw[h]
 cases x with
 | true=>rfl
 | false=>exact k rfl
theorem or_ok {c d:Eb}{env:En}{s:S}{x y:Bool}(h:c env s=.ok x s)(k:x=false->d env s=.ok y s):cOr c d env s=.ok (x || y) s:=by
 unfold cOr
 rw[h]
 cases x with
 | true=>rfl
 | false=>exact k rfl
theorem not_ok {c:Eb}{env:En}{s:S}{x:Bool}(h:c env s=.ok x s):cNot c env s=.ok (!x) s:=by unfold cNot;rw[h];rfl
theorem t_ok {m:Ev}{env:En}{s:S}{x:Bool}(h:m env s=.ok (.bl x) s):cT m env s=.ok x s:=by unfold cT;rw[h];rfl
theorem b_ok {m:Ev}{env:En}{s:S}{x:Bool}(h:m env s=.ok (.bl x) s):cB m env s=.ok x s:=by unfold cB;rw[h];rfl
theorem ret_ok {m:Ev}{env:En}{s:S}{v:AV}(h:m env s=.ok v s):sRet m env s=.rt v s:=by unfold sRet;rw[h];rfl
theorem and_ok {a b:Ev}{env:En}{s:S}{x y:Bool}(h:a env s=.ok (.bl x) s) (k:x=true->b env s=.ok (.bl y) s):mAnd a b env s=.ok (.bl (x && y)) s:=by
 unfold mAnd
 rw[h]
 cases x with
 | false=>rfl
 | true=>exact k rfl
theorem call1 {F:List AV->S->R AV}{m:Ev}{env:En}{s:S}{v w:AV}(h:m env s=.ok v s)(k:F [v] s=.ok w s):mCall 1 F (pCons m pNil) env s=.ok w s:=by
 unfold mCall pCons pNil
 rw[h]
 exact k
theorem call2 {F:List AV->S->R AV}{m m2:Ev}{env:En}{s:S}{v v2 w:AV}(h:m env s=.ok v s)(h2:m2 env s=.ok v2 s)(k:F [v,v2] s=.ok w s):mCall 2 F (pCons m (pCons m2 pNil)) env s=.ok w s:=by
 unfold mCall pCons pNil
 rw[h,bind_ok',h2]
 exact k
theorem un_ok {op:AV->S->R AV}{m:Ev}{env:En}{s:S}{v w:AV}(h:m env s=.ok v s)(k:op v s=.ok w s):mUn op m env s=.ok w s:=by unfold mUn;rw[h];exact k
theorem bin_ok {op:AV->AV->S->R AV}{m m2:Ev}{env:En}{s:S}{v v2 w:AV}(h:m env s=.ok v s)(h2:m2 env s=.ok v2 s)(k:op v v2 s=.ok w s):mBin op m m2 env s=.ok w s:=by unfold mBin;rw[h,bind_ok',h2];exact k
theorem op1_ok {op:List AV->S->R AV}{m:Ev}{env:En}{s:S}{v w:AV}(h:m env s=.ok v s)(k:op [v] s=.ok w s):mOp op (pCons m pNil) env s=.ok w s:=by unfold mOp pCons pNil;rw[h];exact k
theorem fn_rt {n:Nat}{b:Ms}{args:List AV}{s:S}{v:AV}(h:b (args.map some++List.replicate (n - args.length) none) s=.rt v s):fnR n b args s=.ok v s:=by unfold fnR;rw[h]
theorem chain_ok {o o':AV->AV->S->R AV}{a b c:Ev}{env:En}{s:S}{v w z:AV}{x y:Bool}(h1:a env s=.ok v s)(h2:b env s=.ok w s)(h3:o v w s=.ok (.bl x) s) (h4:c env s=.ok z s)(h5:o' w z s=.ok (.bl y) s):mChain o o' a b c env s=.ok (.bl (x && y)) s:=by
 unfold mChain
 rw[h1,bind_ok',h2,bind_ok',h3,bind_ok']
 cases x with
 | false=>rfl
 | true=>show((c env s).bind λ z s4=>o' w z s4)=_;rw[h4];exact h5
theorem lenT {xs:List AV}{s:S}:opLen [.tup xs] s=.ok (.int xs.length) s:=rfl
def isTy (n:String):AV->S->Bool:=λ v s=>match tagOf v s with
 | some t=>isTag t n
 | none=>false
theorem isi_ok {v:AV}{s:S}{n:String}{m:Ev}{env:En}(h:∃ t,tagOf v s=some t)(e:m env s=.ok v s):mUn (opIsi n) m env s=.ok (.bl (isTy n v s)) s:=by
 obtain⟨t,h⟩:=h
 refine un_ok e ?_
 unfold isTy
 rw[isi_eq h,h]
theorem ty_tup {v:AV}{s:S}(h:isTy "tuple" v s=true):∃ xs,v=.tup xs:=by
 cases v with
 | tup xs=>exact⟨xs,rfl⟩
 | ref i=>
  unfold isTy at h
  split at h
  ·rename_i t e;rcases tag_ref e with rfl|rfl<;>exact absurd h (by decide)
  ·cases h
 | _=>exact absurd h (by unfold isTy;simp only[tagOf];decide)
theorem ty_str {v:AV}{s:S}(h:isTy "str" v s=true):∃ xs,v=.str xs:=by
 cases v with
 | str xs=>exact⟨xs,rfl⟩
 | ref i=>
  unfold isTy at h
  split at h
  ·rename_i t e;rcases tag_ref e with rfl|rfl<;>exact absurd h (by decide)
  ·cases h
 | _=>exact absurd h (by unfold isTy;simp only[tagOf];decide)
theorem ty_tupT (xs:List AV)(s:S):isTy "tuple" (.tup xs) s=true:=by unfold isTy;simp only[tagOf];decide
theorem ty_strT (xs:Str)(s:S):isTy "str" (.str xs) s=true:=by unfold isTy;simp only[tagOf];decide
def isTup (n:Int):AV->Bool
 | .tup xs=>decide ((xs.length:Int)=n)
 | _=>false
theorem isTup_and {v:AV}{s:S}{n:Int}:(isTy "tuple" v s && isTup n v)=isTup n v:=by
 cases h:isTy "tuple" v s with
 | true=>simp
 | false=>
  cases v with
  | tup xs=>rw[ty_tupT]at h;cases h
  | _=>rfl
theorem is_tuple_eq {v:AV}{s:S}{n:Int}(h:∃ t,tagOf v s=some t):f_is_tuple_of [v,.int n] s=.ok (.bl (isTup n v)) s:=by
 rw[<-isTup_and (s:=s)]
 refine fn_rt (ret_ok (and_ok (isi_ok h rfl) λ h1=>?_))
 obtain⟨xs,rfl⟩:=ty_tup h1
 exact bin_ok (op1_ok rfl lenT) rfl rfl
theorem sg_le (a c:Nat):(!decide ([c] < [a]))=decide (a<=c):=by
 have:([c] < [a]) ↔ c < a:=by
  rw[List.cons_lt_cons_iff];simp
 by_cases h:c < a
 ·simp[this,h]
 ·simp[this,h];omega
def smV:AV->Bool
 | .str u=>u.cps.toList.all smC
 | _=>false
theorem smV_sgn (c:Nat):smV (sgn c)=smC c:=by unfold smV sgn;simp
theorem len_wp {t:Str}{s:S}(h:t.length<=sizeLine):opLen [.str t] s=.ok (.int t.length) s:=if_pos h
theorem len18 {m:Ev}{env:En}{t:Str}{s:S}(e:m env s=.ok (.str t) s) (h:t.length<=sizeLine):mChain opLe opLe (mc (.int 1)) (mOp opLen (pCons m pNil)) (mc (.int 8)) env s=.ok (.bl (decide (1<=t.length) && decide (t.length<=8))) s:=by
 rw[chain_ok (x:=decide ((1:Int)<=t.length)) (y:=decide ((t.length:Int)<=8)) rfl (op1_ok e (len_wp h)) rfl rfl rfl]
 congr 3
 ·simp;omega
 ·simp;omega
theorem srcS_ok {m:Ev}{env:En}{t:Str}{s:S}(e:m env s=.ok (.str t) s) (h:t.cps.all (· < 128)=true):srcS m env s=.ok (t.cps.toList.map sgn,[]) s:=by
 unfold srcS
 rw[e]
 exact if_pos h
theorem az_eq (c:Nat)(s:S):mChain opLeS opLeS (mc (.str "a")) (mv 0) (mc (.str "z")) [some (sgn c)] s=.ok (.bl (smC c)) s:=by
 have e1:("a":Str).cps.toList=[97]:=by decide +kernel
 have e2:("z":Str).cps.toList=[122]:=by decide +kernel
 show(match AV.bl (!decide ([c] < ("a":Str).cps.toList)) with|.bl true=>R.ok (AV.bl (!decide (("z":Str).cps.toList < [c]))) s|.bl false=>.ok (.bl false) s|_=>.bad)=_
 rw[e1,e2,sg_le,sg_le]
 unfold smC
 by_cases h:97<=c
 ·simp[h]
 ·simp[h]
theorem small_eq {l:Lc}{env:En}{m:Ev}{t:Str}{s:S}(e:m env s=.ok (.str t) s) (e2:srcE l env=[none])(h:t.cps.all (· < 128)=true) (hl:t.length<=sizeLine) :
  gOp qAll (lComp l (srcS m) (gN 0) cYes (mChain opLeS opLeS (mc (.str "a")) (mv 0) (mc (.str "z")))) env s=.ok (.bl (t.cps.toList.all smC)) s:=by
 rw[all_map smV (srcS_ok e h) (by rw[List.length_map];exact hl) (gOk_nil s) e2 λ v hv=>?_]
 ·rw[List.all_map]
  congr 2
  congr 1
  funext c
  exact smV_sgn c
 ·obtain⟨c,_,rfl⟩:=List.mem_map.mp hv
  rw[az_eq,smV_sgn]
theorem if_t {c:Eb}{b:Ms}{env:En}{s:S}(h:c env s=.ok true s):sSeq (sIf c (sRet (mc (.bl false))) sSkip) b env s=.rt (.bl false) s:=by
 unfold sSeq sIf
 rw[h];rfl
theorem if_f {c:Eb}{b:Ms}{env:En}{s:S}{r:RS}(h:c env s=.ok false s)(k:b env s=r):sSeq (sIf c (sRet (mc (.bl false))) sSkip) b env s=r:=by
 unfold sSeq sIf
 rw[h];exact k
theorem or_t {c d:Eb}{env:En}{s:S}(h:c env s=.ok true s):cOr c d env s=.ok true s:=by unfold cOr;rw[h];rfl
theorem or_f {c d:Eb}{env:En}{s:S}{r:R Bool}(h:c env s=.ok false s)(k:d env s=r):cOr c d env s=r:=by unfold cOr;rw[h];exact k
theorem isi_b {v:AV}{s:S}{n:String}{m:Ev}{env:En}{b:Bool}(h:∃ t,tagOf v s=some t)(e:m env s=.ok v s)(k:isTy n v s=b):mUn (opIsi n) m env s=.ok (.bl b) s:=k ▸ isi_ok h e
theorem isNm_no {v:AV}{s:S}(h:isTy "str" v s=false):isNm v=false:=by
 cases v with
 | str xs=>rw[ty_strT]at h;cases h
 | _=>rfl
theorem is_name_eq {v:AV}{s:S}(h:leafOk s v):f_is_name [v] s=.ok (.bl (isNm v)) s:=by
 obtain⟨ht,h⟩:=h
 cases hs:isTy "str" v s with
 | true=>
  obtain⟨t,rfl⟩:=ty_str hs
  refine(fn_rt (if_ok (or_ok (not_ok (t_ok (isi_b ht rfl hs))) λ _=>not_ok (b_ok (len18 rfl h.2))) λ _=>ret_ok (small_eq rfl rfl h.1 h.2))).trans ?_
  unfold isNm
  dsimp only
  cases (decide (1<=t.length) && decide (t.length<=8))<;>rfl
 | false=>
  rw[isNm_no hs]
  exact fn_rt (if_t (or_t (not_ok (x:=false) (t_ok (isi_b ht rfl hs)))))
theorem isNum_int {v:AV}(h:isNum v=true):∃ i,v=.int i:=by
 cases v with
 | int i=>exact⟨i,rfl⟩
 | _=>cases h
theorem two_of {xs:List AV}(h:isTup 2 (.tup xs)=true):∃ a b,xs=[a,b]:=by
 have h:((xs.length:Int))=2:=by simpa[isTup]using h
 match xs,h with
 | [a,b],_=>exact⟨a,b,rfl⟩
 | [],h=>simp at h
 | [a],h=>simp at h
 | a :: b :: c :: r,h=>simp at h;omega
theorem tup_of {n:Int}{v:AV}(h:isTup n v=true):∃ xs,v=.tup xs:=by
 cases v with
 | tup xs=>exact⟨xs,rfl⟩
 | _=>cases h
theorem ig_one {i j:Int}(hj:1<=j):ig i j=1 ↔ Int.gcd i j=1:=by
 show((Int.gcd i j:Nat):Int)=1 ↔ _
 omega
theorem eq_two (s:S)(a b c d:Int):opEq (.tup [.int a,.int b]) (.tup [.int c,.int d]) s=.ok (.bl (decide (a=c) && decide (b=d))) s:=by
 unfold opEq eqAV
 simp only
 have e:∀ x y:Int,toD 20 s (.tup [.int x,.int y])=some (.tup [.int x,.int y]):=λ x y=>by simp[toD]
 rw[e,e]
 dsimp only
 rw[if_pos (show depL [Dt.int a,Dt.int b]<=20 by simp[depL,Dt.dep])]
 simp only[eqDL,eqD,need_some]
 by_cases h1:a=c<;>by_cases h2:b=d<;>simp[h1,h2]
theorem low_same {i j:Int}(hj:1<=j):(decide ((Rat.divInt i j).num=i) && decide (((Rat.divInt i j).den:Int)=j))=decide (ig i j=1):=by
 have e:=fr_rat (t:=i) (b:=j) (by omega)
 have e1:i.fdiv (gsg i j)=(Rat.divInt i j).num:=congrArg Prod.fst e
 have e2:j.fdiv (gsg i j)=((Rat.divInt i j).den:Int):=congrArg Prod.snd e
 have eg:gsg i j=ig i j:=if_neg (by omega)
 rw[eg]at e1 e2
 by_cases h:ig i j=1
 ·rw[h,Int.fdiv_one]at e1 e2
  rw[<-e1,<-e2];simp[h]
 ·rw[decide_eq_false h,Bool.and_eq_false_iff]
  by_cases h1:(Rat.divInt i j).num=i
  ·right
   apply decide_eq_false
   intro h2
   have:=rat_cop (Rat.divInt i j)
   rw[h1,h2]at this
   exact h ((ig_one hj).mpr this)
  ·left;exact decide_eq_false h1
theorem abc_in:∀ c,c < 128->Txt.contains "abcdefghijklmnopqrstuvwxyz" ⟨#[c]⟩=smC c:=by decide +kernel
theorem comp_filter {test:Eb}{gs:Gd}{rest:En}{s:S}(f:AV->Bool)(hg:gOk gs s):∀ (xs acc:List AV) (x:Option AV),(∀ v∈xs,test (some v :: rest) s=.ok (f v) s)->compL (gN 0) test (mv 0) gs xs (x :: rest) s acc=.ok (acc++xs.filter f) s
 | [],acc,x,_=>by unfold compL;rw[if_pos hg];simp
 | v :: r,acc,x,h=>by
  unfold compL
  rw[if_pos hg]
  show((test (some v :: rest) s).calm.bind λ b s2=>if b=true then ((mv 0 (some v :: rest) s2).calm.bind λ x s3=>compL (gN 0) test (mv 0) gs r (some v :: rest) s3 (acc++[x])) else compL (gN 0) test (mv 0) gs r (some v :: rest) s2 acc)=_
  rw[h v (.head _)]
  show(if f v=true then compL (gN 0) test (mv 0) gs r (some v :: rest) s (acc++[v]) else compL (gN 0) test (mv 0) gs r (some v :: rest) s acc)=_
  rw[comp_filter f hg r _ _ λ w hw=>h w (.tail _ hw),comp_filter f hg r _ _ λ w hw=>h w (.tail _ hw)]
  cases hv:f v<;>simp[hv]
theorem lst_last (s:S)(xs:List AV):lstO (s++[.lst xs]) s.length=some xs:=lstO_of (by simp)
theorem lst_old {s e:S}{i:Nat}{xs:List AV}(h:lstO s i=some xs):lstO (s++e) i=some xs:=by
 refine lstO_of ?_
 have:=lstO_inv h
 rw[List.getElem?_append_left (List.getElem?_eq_some_iff.mp this).1]
 exact this
theorem tup_ok {r:Evs}{env:En}{s:S}{vs:List AV}(h:r env s=.ok vs s)(hl:vs.length<=1000):mTup r env s=.ok (.tup vs) s:=by
 unfold mTup
 rw[h,bind_ok',if_pos (Nat.le_of_lt (small1000 hl))]
theorem tag_app {s z:S}{v:AV}{t:String}(h:tagOf v s=some t):tagOf v (s++z)=some t:=by
 cases v with
 | ref i=>
  simp only[tagOf]at h ⊢
  cases e:s[i]? with
  | none=>rw[e]at h;cases h
  | some o=>rw[List.getElem?_append_left (List.getElem?_eq_some_iff.mp e).1,e];rw[e]at h;exact h
 | _=>exact h
theorem comp_map2 {elt:Ev}{gs:Gd}{s:S}(g:AV->AV->AV)(hg:gOk gs s):∀ (xs:List (AV × AV)) (acc:List AV) (x y:Option AV),(∀ p∈xs,elt [some p.1,some p.2] s=.ok (g p.1 p.2) s)->compL (gT 2 (gCons' (gN 0) (gCons' (gN 1) gNil'))) cYes elt gs (xs.map λ p=>.tup [p.1,p.2]) [x,y] s acc=.ok (acc++xs.map λ p=>g p.1 p.2) s
 | [],acc,x,y,_=>by unfold compL;simp only[List.map_nil];rw[if_pos hg];simp
 | p :: r,acc,x,y,h=>by
  simp only[List.map_cons]
  unfold compL
  rw[if_pos hg]
  show((elt [some p.1,some p.2] s).calm.bind λ x s3=>compL (gT 2 (gCons' (gN 0) (gCons' (gN 1) gNil'))) cYes elt gs (r.map λ p=>.tup [p.1,p.2]) [some p.1,some p.2] s3 (acc++[x]))=_
  rw[h p (.head _)]
  show compL (gT 2 (gCons' (gN 0) (gCons' (gN 1) gNil'))) cYes elt gs (r.map λ p=>.tup [p.1,p.2]) [some p.1,some p.2] s (acc++[g p.1 p.2])=_
  rw[comp_map2 g hg r _ _ _ λ w hw=>h w (.tail _ hw)]
  simp
theorem all_map2 {l:Lc}{src:Src}{elt:Ev}{env:En}{s s1:S}{xs:List (AV × AV)}{gs:Gd}(f:AV->AV->Bool)(e1:src env s=.ok (xs.map λ p=>AV.tup [p.1,p.2],gs) s1) (hl:xs.length<=1000)(hg:gOk gs s1)(e2:srcE l env=[none,none])(h:∀ p∈xs,elt [some p.1,some p.2] s1=.ok (.bl (f p.1 p.2)) s1) :
  gOp qAll (lComp l src (gT 2 (gCons' (gN 0) (gCons' (gN 1) gNil'))) cYes elt) env s=.ok (.bl (xs.all λ p=>f p.1 p.2)) s1:=by
 unfold gOp lComp
 rw[e1,bind_ok,if_pos (by simp only[List.length_map];exact Nat.le_of_lt (small1000 hl)),e2,comp_map2 (λ a b=>.bl (f a b)) hg xs [] none none h]
 show(need (blsO (xs.map λ p=>AV.bl (f p.1 p.2))) λ ns=>R.ok (AV.bl (ns.all id)) s1)=_
 have:∀ l:List (AV × AV),blsO (l.map λ p=>AV.bl (f p.1 p.2))=some (l.map λ p=>f p.1 p.2):=by
  intro l
  induction l with
  | nil=>rfl
  | cons p r ih=>simp only[List.map_cons,blsO,ih];rfl
 rw[this]
 show R.ok (AV.bl ((xs.map λ p=>f p.1 p.2).all id)) s1=_
 rw[List.all_map];rfl
theorem new_ok {L:Evs}{env:En}{s:S}{xs:List AV}(h:L env s=.ok xs s):mNew L env s=.ok (.ref s.length) (s++[.lst xs]):=by unfold mNew;rw[h];rfl
def qOf:AV->Rat
 | .tup [.int a,.int b]=>Rat.divInt a b
 | _=>0
def nOf:AV->Int
 | .int i=>i
 | _=>0
theorem txts_map:∀ l:List Str,txts (l.map AV.str)=some l
 | []=>rfl
 | a :: r=>by simp only[List.map_cons,txts,txts_map r];rfl
theorem fn2w' {n:Nat}{b:Ms}{v w:AV}{s:S}{Q:AV->S->Prop}(h:(b (some v :: some w :: List.replicate (n - 2) none) s).wp (λ _ s1=>Q .non s1) Q):(fnR n b [v,w] s).wp Q:=by rw[WS.2.2.2.2.2.2.2.2.2.2.2.2.2.2.2.2.1];exact h
def Asc (t:Str)(n:Nat):Prop:=(∀ c∈t.cps.toList,c < 128)/\t.length<=n
theorem Asc.all {t:Str}{n:Nat}(h:Asc t n):t.cps.all (· < 128)=true:=by
 rw[Array.all_eq_true']
 intro c hc
 exact decide_eq_true (h.1 c (Array.mem_toList_iff.mpr hc))
theorem Asc.app {t u:Str}{n m:Nat}(h:Asc t n)(k:Asc u m):Asc (t++u) (n+m):=by
 have e:(t++u).cps=t.cps++u.cps:=rfl
 refine⟨λ c hc=>?_,?_⟩
 ·rw[e,Array.toList_append]at hc
  exact(List.mem_append.mp hc).elim (h.1 c) (k.1 c)
 ·show(t++u).cps.size<=_
  rw[e,Array.size_append]
  have h1:t.cps.size<=n:=h.2
  have h2:u.cps.size<=m:=k.2
  omega
theorem Asc.mono {t:Str}{n m:Nat}(h:Asc t n)(k:n<=m):Asc t m:=⟨h.1,Nat.le_trans h.2 k⟩
theorem Asc.slice {t:Str}{n:Nat}(h:Asc t n)(l u:Option Int):Asc (Txt.slice t l u) n:=by
 refine⟨λ c hc=>?_,Nat.le_trans (Txt.slice_le t l u) h.2⟩
 unfold Txt.slice at hc
 split at hc
 ·exact h.1 c hc
 ·obtain⟨i,_,e⟩:=List.mem_filterMap.mp (show c∈List.filterMap _ _ from hc)
  exact h.1 c (Array.mem_toList_iff.mpr (Array.mem_of_getElem? e))
theorem Asc.small {t:Str}{n:Nat}(h:Asc t n)(k:n<=1000):t.length<=sizeLine:=Nat.le_of_lt (small1000 (Nat.le_trans h.2 k))
theorem fn1w' {n:Nat}{b:Ms}{v:AV}{s:S}{Q:AV->S->Prop}(h:(b (some v :: List.replicate (n - 1) none) s).wp (λ _ s1=>Q .non s1) Q):(fnR n b [v] s).wp Q:=by rw[WS.2.2.2.2.2.2.2.2.2.2.2.2.2.2.2.1];exact h
theorem add_str {t u:Str}{s:S}(h:t.length+u.length<=1000):opAdd (.str t) (.str u) s=.ok (.str (t++u)) s:=if_pos (Nat.le_of_lt (small1000 h))
theorem abc_asc:Asc "abcdefghijklmnopqrstuvwxyz" 26:=⟨by decide +kernel,by decide +kernel⟩
theorem abc_len:("abcdefghijklmnopqrstuvwxyz":Str).length=26:=by decide +kernel
theorem gc_ok {m:Ev}{env:En}{s z:S}{v:AV}(h:m env s=.ok v (s++z)) (l:v.low s.length=true):gcE m env s=.ok v s:=by
 unfold gcE
 rw[h,bind_ok',if_pos ⟨by rw[List.take_left'] ;rfl,l⟩]
theorem tag_gk {c d n m:Nat}{s s':S}{v:AV}{t:String}(D:Dr c d n s)(D':Dr c d m s')(G:Gk c d s s')(h:tagOf v s=some t):tagOf v s'=some t:=by
 cases v with
 | ref i=>
  obtain⟨⟨t1,cells,h1,h2,_⟩,_⟩:=D
  obtain⟨⟨t1',cells',h1',h2',_⟩,_⟩:=D'
  simp only[tagOf]at h ⊢
  by_cases e1:i=c
  ·subst e1;rw[h2]at h;rw[h2'];exact h
  by_cases e2:i=d
  ·subst e2;rw[h1]at h;rw[h1'];exact h
  cases e:s[i]? with
  | none=>rw[e]at h;cases h
  | some o=>rw[G.get i (List.getElem?_eq_some_iff.mp e).1 e1 e2,e];rw[e]at h;exact h
 | _=>exact h
theorem leaf_gk {c d n m:Nat}{s s':S}{v:AV}(D:Dr c d n s)(D':Dr c d m s')(G:Gk c d s s')(h:leafOk s v):leafOk s' v:=by
 obtain⟨⟨t,ht⟩,h⟩:=h
 exact⟨⟨t,tag_gk D D' G ht⟩,h⟩
theorem okD_gk {c d n m:Nat}{s s':S}(D:Dr c d n s)(D':Dr c d m s')(G:Gk c d s s'):∀ {k:Nat}{v:AV},okD k s v->okD k s' v
 | 0,_,h=>leaf_gk D D' G h
 | k+1,v,h=>⟨leaf_gk D D' G h.1,λ xs e=>⟨(h.2 xs e).1,λ x hx=>okD_gk D D' G ((h.2 xs e).2 x hx)⟩⟩
structure Th (s:S)(v:AV):Prop where
 ok:okD 1 s v
 dp:depA v<=3
 lw:v.low s.length=true
theorem Th.gk {c d n m:Nat}{s s':S}{v:AV}(D:Dr c d n s)(D':Dr c d m s')(G:Gk c d s s')(h:Th s v):Th s' v:=⟨okD_gk D D' G h.ok,h.dp,AV.low.mono G.len h.lw⟩
theorem push {c d n:Nat}{st:S}{xs:List AV}(D:Dr c d n st)(h:∀ x∈xs,Th st x):Dr c d n (st++[.lst xs])/\Gk c d st (st++[.lst xs])/\∀ x,Th st x->Th (st++[.lst xs]) x:=by
 have lw:∀ l:List AV,(∀ x∈l,Th st x)->lowL st.length l=true:=by
  intro l
  induction l with
  | nil=>intro _;simp[lowL]
  | cons a r ih=>intro h;simp only[lowL,(h a (.head _)).lw,ih λ x hx=>h x (.tail _ hx)];rfl
 have D':=D.app (e:=[.lst xs]) (D.cl.add (by simp only[List.all_cons,List.all_nil,Bool.and_true];exact lowL.mono (by simp) (lw xs h)))
 exact⟨D',Gk.app c d st _,λ x hx=>hx.gk D D' (Gk.app c d st _)⟩
theorem lowL_of {b:Nat}:∀ {l:List AV},(∀ x∈l,x.low b=true)->lowL b l=true
 | [],_=>by simp[lowL]
 | a :: r,h=>by simp only[lowL,h a (.head _),lowL_of λ x hx=>h x (.tail _ hx)];rfl
theorem nm24_nm:∀ z∈nm24,isNm (.str z)=true/\(z.cps.toList.all λ c=>decide (c < 128))=true/\z.length<=8:=by decide +kernel
theorem nm24_asc {z:Str}(h:z∈nm24):Asc z 8:=⟨λ c hc=>of_decide_eq_true (List.all_eq_true.mp (nm24_nm z h).2.1 c hc),(nm24_nm z h).2.2⟩
def prT:List AV->List AV->List AV
 | x :: xs,y :: ys=>.tup [x,y] :: prT xs ys
 | _,_=>[]
def pF:AV->AV
 | .tup [x,_]=>x
 | w=>w
def pS:AV->AV
 | .tup [_,x]=>x
 | w=>w
def isFrom (a b:Int):AV->Bool
 | .int i=>decide (a<=i) && decide (i<=b)
 | _=>false
theorem isFrom_and (a b:Int)(v:AV):(isNum v && isFrom a b v)=isFrom a b v:=by cases v<;>rfl
theorem call3 {F:List AV->S->R AV}{m m2 m3:Ev}{env:En}{s:S}{v v2 v3 w:AV}(h:m env s=.ok v s)(h2:m2 env s=.ok v2 s)(h3:m3 env s=.ok v3 s)(k:F [v,v2,v3] s=.ok w s):mCall 3 F (pCons m (pCons m2 (pCons m3 pNil))) env s=.ok w s:=by
 unfold mCall pCons pNil
 rw[h,bind_ok',h2,bind_ok',h3]
 exact k
theorem chain3 {v:AV}{a b:Int}{s:S}(h:isNum v=true):mChain opLe opLe (mv 1) (mv 0) (mv 2) [some v,some (.int a),some (.int b)] s=.ok (.bl (isFrom a b v)) s:=by
 obtain⟨i,rfl⟩:=isNum_int h
 exact chain_ok (x:=decide (a<=i)) (y:=decide (i<=b)) rfl rfl rfl rfl rfl
theorem from_eq {v:AV}{a b:Int}{s:S}(h:∃ t,tagOf v s=some t):f_is_number_from [v,.int a,.int b] s=.ok (.bl (isFrom a b v)) s:=by
 rw[<-isFrom_and]
 exact fn_rt (ret_ok (and_ok (call1 rfl (is_number_eq h)) λ hn=>chain3 hn))
theorem isnum3 {v:AV}{s:S}{env:En}{m:Ev}(h:∃ t,tagOf v s=some t)(e:m env s=.ok v s){c:Ev}{b:Bool}(k:isNum v=true->c env s=.ok (.bl b) s):mAnd (mUn (opIsi "int") m) (mAnd (mUn opNot (mUn (opIsi "bool") m)) c) env s=.ok (.bl (isNum v && b)) s:=by
 have b1:=isi_ok (n:="int") h e
 have b2:=isi_ok (n:="bool") h e
 obtain⟨t,ht⟩:=h
 cases v with
 | int n=>exact and_ok (x:=true) (y:=b) b1 λ _=>and_ok (x:=true) (y:=b) (un_ok b2 rfl) λ _=>k rfl
 | bl q=>exact and_ok (x:=true) (y:=false) b1 λ _=>and_ok (x:=false) (y:=false) (un_ok b2 rfl) λ h=>by cases h
 | ref n=>exact and_ok (x:=false) (y:=false) (by rw[b1];unfold isTy;rw[ht];rcases tag_ref ht with rfl|rfl<;>rfl) λ h=>by cases h
 | _=>exact and_ok (x:=false) (y:=false) b1 λ h=>by cases h
theorem whole06_eq {v:AV}{a b:Int}{s:S}(h:∃ t,tagOf v s=some t):f__law_whole06 [v,.int a,.int b] s=.ok (.bl (isFrom a b v)) s:=by
 rw[<-isFrom_and]
 exact fn_rt (ret_ok (isnum3 h rfl λ hn=>chain3 hn))
def isPt:AV->Bool
 | .tup [.int t,.int b]=>(decide (1<=b) && decide (b<=60)) && (decide (1<=t) && decide (t<=b)) && decide (ig t b=1)
 | _=>false
theorem isPt_eq (t b:Int):isPt (.tup [.int t,.int b])=((decide (1<=b) && decide (b<=60)) && (decide (1<=t) && decide (t<=b)) && decide (ig t b=1)):=rfl
theorem isPt_no {v:AV}(h:isTup 2 v=false):isPt v=false:=by
 unfold isPt
 split
 ·exact absurd h (by simp[isTup])
 ·rfl
theorem isPt_num {v w:AV}(h:isNum v=false∨isNum w=false):isPt (.tup [v,w])=false:=by
 unfold isPt
 split
 ·rename_i e;cases e;rcases h with h|h<;>cases h
 ·rfl
theorem part06_eq {v:AV}{s:S}(h:okD 1 s v):f_is_part [v] s=.ok (.bl (isPt v)) s:=by
 have ht:=h.leaf.1
 cases hs:isTup 2 v with
 | false=>
  rw[isPt_no hs]
  exact fn_rt (if_t (not_ok (x:=false) (t_ok (call2 rfl rfl (hs ▸ is_tuple_eq ht)))))
 | true=>
  obtain⟨xs,rfl⟩:=tup_of hs
  obtain⟨a,b,rfl⟩:=two_of hs
  obtain⟨_,h2⟩:=h.2 _ rfl
  have h1:=(h2 a (by simp)).leaf.1
  have h3:=(h2 b (by simp)).leaf.1
  refine fn_rt (if_f (not_ok (x:=true) (t_ok (call2 rfl rfl (hs ▸ is_tuple_eq ht)))) ?_)
  let E:En:=[some (.tup [a,b]),some a,some b]
  show sSeq _ _ E s=_
  have k1:cNot (cT (mCall 3 f_is_number_from (pCons (mv 2) (pCons (mc (.int 1)) (pCons (mc k_GREATEST_BELOW) pNil))))) E s=.ok (!isFrom 1 60 b) s:=not_ok (t_ok (call3 rfl rfl rfl (from_eq h3)))
  cases f1:isFrom 1 60 b with
  | false=>
   rw[f1]at k1
   rw[show isPt (.tup [a,b])=false from ?_]
   ·exact if_t (or_t k1)
   ·cases b with
    | int j=>cases a with
     | int i=>rw[isPt_eq,show(decide (1<=j) && decide (j<=60))=false from f1];rfl
     | _=>exact isPt_num (.inl rfl)
    | _=>exact isPt_num (.inr rfl)
  | true=>
   rw[f1]at k1
   obtain⟨j,rfl⟩:∃ j,b=.int j:=by cases b with|int j=>exact⟨j,rfl⟩|_=>cases f1
   have k2:cNot (cT (mCall 3 f_is_number_from (pCons (mv 1) (pCons (mc (.int 1)) (pCons (mv 2) pNil))))) E s=.ok (!isFrom 1 j a) s:=not_ok (t_ok (call3 rfl rfl rfl (from_eq h1)))
   cases f2:isFrom 1 j a with
   | false=>
    rw[f2]at k2
    rw[show isPt (.tup [a,.int j])=false from ?_]
    ·exact if_t (or_f k1 k2)
    ·cases a with
     | int i=>rw[isPt_eq,show(decide (1<=i) && decide (i<=j))=false from f2,Bool.and_false];rfl
     | _=>exact isPt_num (.inl rfl)
   | true=>
    rw[f2]at k2
    obtain⟨i,rfl⟩:∃ i,a=.int i:=by cases a with|int i=>exact⟨i,rfl⟩|_=>cases f2
    refine(if_f (or_f k1 k2) (ret_ok (bin_ok (call2 rfl rfl (gcd_eq i j s)) rfl rfl))).trans ?_
    rw[isPt_eq,show(decide (1<=j) && decide (j<=60))=true from f1,show(decide (1<=i) && decide (i<=j))=true from f2];rfl
theorem lpart_eq {v:AV}{s:S}(h:okD 1 s v):f__law_is_part [v] s=.ok (.bl (isPt v)) s:=by
 have ht:=h.leaf.1
 cases hs:isTy "tuple" v s with
 | false=>
  rw[isPt_no (by rw[<-isTup_and (s:=s),hs];rfl)]
  exact fn_rt (if_t (or_t (not_ok (x:=false) (t_ok (isi_b ht rfl hs)))))
 | true=>
  obtain⟨xs,rfl⟩:=ty_tup hs
  have kl:cB (mBin opNe (mOp opLen (pCons (mv 0) pNil)) (mc (.int 2))) [some (.tup xs)] s=.ok (!(isTup 2 (.tup xs))) s:=b_ok (bin_ok (op1_ok rfl lenT) rfl rfl)
  cases h2:isTup 2 (.tup xs) with
  | false=>
   rw[isPt_no h2]
   rw[h2]at kl
   exact fn_rt (if_t (or_f (not_ok (x:=true) (t_ok (isi_b ht rfl hs))) (or_t kl)))
  | true=>
   rw[h2]at kl
   obtain⟨a,b,rfl⟩:=two_of h2
   obtain⟨_,h2⟩:=h.2 _ rfl
   have h1:=(h2 a (by simp)).leaf
   have h3:=(h2 b (by simp)).leaf
   let E:En:=[some (.tup [a,b])]
   have e0:mBin opIx (mv 0) (mc (.int 0)) E s=.ok a s:=rfl
   have e1:mBin opIx (mv 0) (mc (.int 1)) E s=.ok b s:=rfl
   have k0:=not_ok (x:=true) (t_ok (isi_b (m:=mv 0) (env:=E) ht rfl hs))
   have k1:cNot (cT (mCall 3 f__law_whole06 (pCons (mBin opIx (mv 0) (mc (.int 0))) (pCons (mc (.int 1)) (pCons (mc (.int 60)) pNil))))) E s=.ok (!isFrom 1 60 a) s:=not_ok (t_ok (call3 e0 rfl rfl (whole06_eq h1.1)))
   cases f1:isFrom 1 60 a with
   | false=>
    rw[f1]at k1
    rw[show isPt (.tup [a,b])=false from ?_]
    ·exact fn_rt (if_t (or_f k0 (or_f kl k1)))
    ·cases a with
     | int i=>cases b with
      | int j=>
       have f1:(decide (1<=i) && decide (i<=60))=false:=f1
       show((decide (1<=j) && decide (j<=60)) && (decide (1<=i) && decide (i<=j)) && decide (ig i j=1))=false
       rw[Bool.and_eq_false_iff]at f1
       by_cases q1:j<=60
       ·by_cases q2:i<=j
        ·have:¬ (1<=i):=by intro q3;rcases f1 with h|h<;>simp at h<;>omega
         simp[this]
        ·simp[q2]
       ·simp[q1]
      | _=>exact isPt_num (.inr rfl)
     | _=>exact isPt_num (.inl rfl)
   | true=>
    rw[f1]at k1
    obtain⟨i,rfl⟩:∃ i,a=.int i:=by cases a with|int i=>exact⟨i,rfl⟩|_=>cases f1
    have f1:(decide (1<=i) && decide (i<=60))=true:=f1
    obtain⟨q1,q2⟩:=Bool.and_eq_true_iff.mp f1
    have q1:=of_decide_eq_true q1
    have q2:=of_decide_eq_true q2
    refine fn_rt (if_f (or_f k0 (or_f kl k1)) (ret_ok ?_))
    have k2:mCall 3 f__law_whole06 (pCons (mBin opIx (mv 0) (mc (.int 1))) (pCons (mBin opIx (mv 0) (mc (.int 0))) (pCons (mc (.int 60)) pNil))) E s=.ok (.bl (isFrom i 60 b)) s:=call3 e1 e0 rfl (whole06_eq h3.1)
    cases f2:isFrom i 60 b with
    | false=>
     rw[f2]at k2
     rw[show isPt (.tup [.int i,b])=false from ?_]
     ·exact and_ok (y:=true) k2 λ h=>by cases h
     ·cases b with
      | int j=>
       have f2:(decide (i<=j) && decide (j<=60))=false:=f2
       show((decide (1<=j) && decide (j<=60)) && (decide (1<=i) && decide (i<=j)) && decide (ig i j=1))=false
       rw[Bool.and_eq_false_iff]at f2
       rcases f2 with h|h<;>simp at h
       ·simp[show ¬ (i<=j) by omega]
       ·simp[show ¬ (j<=60) by omega]
      | _=>exact isPt_num (.inr rfl)
    | true=>
     rw[f2]at k2
     obtain⟨j,rfl⟩:∃ j,b=.int j:=by cases b with|int j=>exact⟨j,rfl⟩|_=>cases f2
     have f2:(decide (i<=j) && decide (j<=60))=true:=f2
     obtain⟨q3,q4⟩:=Bool.and_eq_true_iff.mp f2
     have q3:=of_decide_eq_true q3
     have q4:=of_decide_eq_true q4
     have e:isPt (.tup [.int i,.int j])=(true && (decide ((Rat.divInt i j).num=i) && decide (((Rat.divInt i j).den:Int)=j))):=by
      show((decide (1<=j) && decide (j<=60)) && (decide (1<=i) && decide (i<=j)) && decide (ig i j=1))=_
      rw[low_same (by omega)]
      simp[show 1<=j by omega,q4,q1,q3]
     rw[e]
     exact and_ok k2 λ _=>bin_ok (call2 e0 e1 (lowest_eq s (by omega) (h3.2.mono (by decide)) (h1.2.mono (by decide)))) rfl (eq_two s _ _ _ _)
def upOk:Int->List AV->Bool
 | _,[]=>true
 | l,u :: r=>isFrom l 1000000 u && upOk (nOf u+1) r
noncomputable abbrev bUp:Ms:=(sSeq (sIf (cNot (cT (mCall 3 f_is_number_from (pCons (mv 2) (pCons (mv 1) (pCons (mc k_GREATEST_UPTO) pNil)))))) (sRet (mc (.bl false))) sSkip) (sSet 1 (mBin opAdd (mv 2) (mc (.int 1)))))
theorem up_loop {gs:Gd}{x0:Option AV}{s:S}(hg:gOk gs s):∀ (us:List AV) (l:Int) (x:Option AV),(∀ u∈us,∃ t,tagOf u s=some t)->(upOk l us=true->∃ e,forL (gN 2) bUp gs us [x0,some (.int l),x] s=.nx e s)/\(upOk l us=false->forL (gN 2) bUp gs us [x0,some (.int l),x] s=.rt (.bl false) s)
 | [],l,x,_=>⟨λ _=>⟨_,by rw[forL,if_pos hg]⟩,λ h=>by cases h⟩
 | u :: r,l,x,h=>by
  have hu:=h u (.head _)
  have k1:cNot (cT (mCall 3 f_is_number_from (pCons (mv 2) (pCons (mv 1) (pCons (mc k_GREATEST_UPTO) pNil))))) [x0,some (.int l),some u] s=.ok (!isFrom l 1000000 u) s:=not_ok (t_ok (call3 rfl rfl rfl (from_eq hu)))
  rw[forL,if_pos hg]
  show(upOk l (u :: r)=true->∃ e,(match bUp [x0,some (.int l),some u] s with
   | .nx e2 s2=>forL (gN 2) bUp gs r e2 s2|.ct e2 s2=>forL (gN 2) bUp gs r e2 s2|.bk e2 s2=>.nx e2 s2|q=>q)=.nx e s)/\(_->(match bUp [x0,some (.int l),some u] s with
   | .nx e2 s2=>forL (gN 2) bUp gs r e2 s2|.ct e2 s2=>forL (gN 2) bUp gs r e2 s2|.bk e2 s2=>.nx e2 s2|q=>q)=.rt (.bl false) s)
  cases f:isFrom l 1000000 u with
  | false=>
   rw[f]at k1
   have:bUp [x0,some (.int l),some u] s=.rt (.bl false) s:=if_t k1
   rw[this]
   exact⟨(λ h=>by unfold upOk at h;rw[f]at h;cases h),λ _=>rfl⟩
  | true=>
   rw[f]at k1
   obtain⟨i,rfl⟩:∃ i,u=.int i:=by cases u with|int i=>exact⟨i,rfl⟩|_=>cases f
   have:bUp [x0,some (.int l),some (.int i)] s=.nx [x0,some (.int (i+1)),some (.int i)] s:=by
    unfold bUp sSeq sIf
    rw[k1];rfl
   rw[this]
   have ih:=up_loop (x0:=x0) hg r (i+1) (some (.int i)) λ v hv=>h v (.tail _ hv)
   refine⟨λ h=>ih.1 ?_,λ h=>ih.2 ?_⟩
   ·unfold upOk at h;rw[f]at h;exact h
   ·unfold upOk at h;rw[f]at h;exact h
theorem uptos06_eq {i:Nat}{us:List AV}{s:S}(l:lstO s i=some us)(h:∀ u∈us,∃ t,tagOf u s=some t):f_are_uptos [.ref i] s=.ok (.bl (upOk 1 us)) s:=by
 refine fn_rt ?_
 show b_are_uptos [some (.ref i),none,none] s=_
 have src:srcV' (mv 0) [some (.ref i),some (.int 1),none] s=.ok (us,[(i,us)]) s:=by
  show need (lstO s i) _=_
  rw[l];rfl
 obtain⟨h1,h2⟩:=up_loop (x0:=some (.ref i)) ((Mm.gOk_one i us s).mpr l) us 1 none h
 have f1:sFor (srcV' (mv 0)) (gN 2) bUp [some (.ref i),some (.int 1),none] s=forL (gN 2) bUp [(i,us)] us [some (.ref i),some (.int 1),none] s:=by unfold sFor;rw[src];rfl
 unfold b_are_uptos
 show sSeq (sFor (srcV' (mv 0)) (gN 2) bUp) (sRet (mc (.bl true))) [some (.ref i),some (.int 1),none] s=_
 unfold sSeq
 rw[f1]
 cases hu:upOk 1 us with
 | true=>obtain⟨e,he⟩:=h1 hu;rw[he];rfl
 | false=>rw[h2 hu]
def isRate:AV->Bool
 | .tup [_,p]=>isPt p
 | _=>false
def uOf:AV->AV
 | .tup (u :: _)=>u
 | v=>v
def tp2 (p:AV × AV):AV:=.tup [p.1,p.2]
theorem rates_pairs:∀ {xs:List AV},xs.all isRate=true->∃ ps:List (AV × AV),xs=ps.map tp2/\∀ p∈ps,isPt p.2=true
 | [],_=>⟨[],rfl,(λ _ h=>nomatch h)⟩
 | x :: r,h=>by
  rw[List.all_cons,Bool.and_eq_true_iff]at h
  obtain⟨ps,e,hp⟩:=rates_pairs h.2
  have h1:=h.1
  unfold isRate at h1
  split at h1
  ·rename_i u p
   refine⟨(u,p) :: ps,by rw[e];rfl,λ q hq=>?_⟩
   rcases List.mem_cons.mp hq with rfl|hq
   ·exact h1
   ·exact hp q hq
  ·cases h1
theorem rate_eq {v:AV}{s:S}(h:okD 2 s v):mAnd (mCall 2 f_is_tuple_of (pCons (mv 0) (pCons (mc (.int 2)) pNil))) (mCall 1 f_is_part (pCons (mBin opIx (mv 0) (mc (.int 1))) pNil)) [some v] s=.ok (.bl (isRate v)) s:=by
 have ht:=h.leaf.1
 have kt:mCall 2 f_is_tuple_of (pCons (mv 0) (pCons (mc (.int 2)) pNil)) [some v] s=.ok (.bl (isTup 2 v)) s:=call2 rfl rfl (is_tuple_eq ht)
 cases hs:isTup 2 v with
 | false=>
  rw[hs]at kt
  rw[show isRate v=false from ?_]
  ·exact and_ok (y:=true) kt λ h=>by cases h
  ·unfold isRate;split
   ·exact absurd hs (by simp[isTup])
   ·rfl
 | true=>
  obtain⟨xs,rfl⟩:=tup_of hs
  obtain⟨a,b,rfl⟩:=two_of hs
  obtain⟨_,h2⟩:=h.2 _ rfl
  rw[hs]at kt
  exact and_ok (x:=true) kt λ _=>call1 rfl (part06_eq (h2 b (by simp)))
theorem lrate_eq {v:AV}{s:S}(h:okD 2 s v):mAnd (mUn (opIsi "tuple") (mv 0)) (mAnd (mBin opEq (mOp opLen (pCons (mv 0) pNil)) (mc (.int 2))) (mCall 1 f__law_is_part (pCons (mBin opIx (mv 0) (mc (.int 1))) pNil))) [some v] s=.ok (.bl (isRate v)) s:=by
 have ht:=h.leaf.1
 cases hs:isTy "tuple" v s with
 | false=>
  rw[show isRate v=false from ?_]
  ·exact and_ok (y:=true) (isi_b ht rfl hs) λ h=>by cases h
  ·unfold isRate;split
   ·rw[ty_tupT]at hs;cases hs
   ·rfl
 | true=>
  obtain⟨xs,rfl⟩:=ty_tup hs
  have kl:mBin opEq (mOp opLen (pCons (mv 0) pNil)) (mc (.int 2)) [some (.tup xs)] s=.ok (.bl (isTup 2 (.tup xs))) s:=bin_ok (op1_ok rfl lenT) rfl rfl
  cases h2:isTup 2 (.tup xs) with
  | false=>
   rw[h2]at kl
   rw[show isRate (.tup xs)=false from ?_]
   ·exact and_ok (x:=true) (y:=false) (isi_b ht rfl hs) λ _=>and_ok (x:=false) (y:=true) kl λ h=>by cases h
   ·unfold isRate;split
    ·rename_i e;cases e;exact absurd h2 (by simp[isTup])
    ·rfl
  | true=>
   rw[h2]at kl
   obtain⟨a,b,rfl⟩:=two_of h2
   obtain⟨_,h3⟩:=h.2 _ rfl
   exact and_ok (x:=true) (isi_b ht rfl hs) λ _=>and_ok (x:=true) kl λ _=>call1 rfl (lpart_eq (h3 b (by simp)))
def isRt:AV->Bool
 | .tup xs=>(decide (2<=xs.length) && decide (xs.length<=4)) && (xs.all isRate && (isNon (uOf (xs.getLastD .non)) && upOk 1 (xs.dropLast.map uOf)))
 | _=>false
theorem isRt_eq (xs:List AV):isRt (.tup xs)=((decide (2<=xs.length) && decide (xs.length<=4)) && (xs.all isRate && (isNon (uOf (xs.getLastD .non)) && upOk 1 (xs.dropLast.map uOf)))):=rfl
theorem cut_last {α:Type}(xs:List α):cutA xs none (some (-1))=xs.dropLast:=by
 unfold cutA
 have h1:HT.sIx xs.length 0 none=0:=rfl
 have h2:HT.sIx xs.length xs.length (some (-1))=xs.length - 1:=by
  show(if (-1:Int) < 0 then ((-1:Int)+(xs.length:Int)).toNat else min (-1:Int).toNat xs.length)=_
  rw[if_pos (by decide)];omega
 rw[h1,h2,List.dropLast_eq_take]
 simp
theorem at_last {α:Type}(xs:List α)(d:α)(h:xs≠[]):atI xs (-1)=some (xs.getLastD d):=by
 have hl:1<=xs.length:=by cases xs with|nil=>exact absurd rfl h|cons=>simp
 unfold atI
 have e:ixN xs.length (-1)=some (xs.length - 1):=by
  unfold ixN
  rw[if_neg (by omega),if_pos (by omega)]
  congr 1;omega
 rw[e]
 show xs[xs.length - 1]? = _
 rw[List.getLastD_eq_getLast?,List.getLast?_eq_getElem?]
 cases q:xs[xs.length - 1]? with
 | none=>rw[List.getElem?_eq_none_iff]at q;omega
 | some v=>rfl
theorem pairs_mem {ps:List (AV × AV)}{s:S}(h:okD 3 s (.tup (ps.map tp2))):∀ p∈ps,okD 1 s p.1/\okD 1 s p.2:=λ p hp=>by
 obtain⟨_,h2⟩:=h.2 _ rfl
 obtain⟨_,h3⟩:=(h2 (tp2 p) (List.mem_map_of_mem hp)).2 _ rfl
 exact⟨h3 p.1 (by simp),h3 p.2 (by simp)⟩
theorem last_tp {ps:List (AV × AV)}(h:ps≠[]):∃ q,q∈ps/\(ps.map tp2).getLastD .non=tp2 q:=by
 rw[List.getLastD_eq_getLast?,List.getLast?_map]
 cases e:ps.getLast? with
 | none=>exact absurd (List.getLast?_eq_none_iff.mp e) h
 | some q=>exact⟨q,List.mem_of_getLast? e,rfl⟩
theorem len24 {xs:List AV}{s:S}:mChain opLe opLe (mc k_LEAST_RATES) (mOp opLen (pCons (mv 0) pNil)) (mc k_MOST_RATES) [some (.tup xs)] s=.ok (.bl (decide (2<=xs.length) && decide (xs.length<=4))) s:=by
 rw[chain_ok (x:=decide ((2:Int)<=xs.length)) (y:=decide ((xs.length:Int)<=4)) rfl (op1_ok rfl lenT) rfl rfl rfl]
 congr 3<;>(apply decide_eq_decide.mpr;omega)
theorem rates06_eq {v:AV}{s:S}(h:okD 3 s v):f_is_rates [v] s=.ok (.bl (isRt v)) s:=by
 have ht:=h.leaf.1
 cases hs:isTy "tuple" v s with
 | false=>
  rw[show isRt v=false from ?_]
  ·exact fn_rt (if_t (or_t (not_ok (x:=false) (t_ok (isi_b ht rfl hs)))))
  ·unfold isRt;split
   ·rw[ty_tupT]at hs;cases hs
   ·rfl
 | true=>
  obtain⟨xs,rfl⟩:=ty_tup hs
  obtain⟨hl,h2⟩:=h.2 _ rfl
  let E:En:=[some (.tup xs)]
  have k0:=not_ok (x:=true) (t_ok (isi_b (m:=mv 0) (env:=E) ht rfl hs))
  have k1:=not_ok (b_ok (len24 (xs:=xs) (s:=s)))
  cases f1:decide (2<=xs.length) && decide (xs.length<=4) with
  | false=>
   rw[f1]at k1
   rw[show isRt (.tup xs)=false from by rw[isRt_eq,f1];rfl]
   exact fn_rt (if_t (or_f k0 k1))
  | true=>
   rw[f1]at k1
   have k2:gOp qAll (lComp [("rate",none)] (srcV' (mv 0)) (gN 0) cYes (mAnd (mCall 2 f_is_tuple_of (pCons (mv 0) (pCons (mc (.int 2)) pNil))) (mCall 1 f_is_part (pCons (mBin opIx (mv 0) (mc (.int 1))) pNil)))) E s=.ok (.bl (xs.all isRate)) s:=
    all_map (rest:=[]) (gs:=[]) isRate rfl hl (gOk_nil s) rfl λ x hx=>rate_eq (h2 x hx)
   cases f2:xs.all isRate with
   | false=>
    rw[f2]at k2
    rw[show isRt (.tup xs)=false from by rw[isRt_eq,f1,f2];rfl]
    exact fn_rt (if_f (or_f k0 k1) (if_t (not_ok (x:=false) (t_ok k2))))
   | true=>
    rw[f2]at k2
    obtain⟨ps,rfl,hp⟩:=rates_pairs f2
    have hpm:=pairs_mem h
    have hne:ps≠[]:=by rintro rfl;simp at f1
    obtain⟨q,hq,eq⟩:=last_tp hne
    have e1:mBin opIx (mBin opIx (mv 0) (mUn opNeg (mc (.int 1)))) (mc (.int 0)) E s=.ok q.1 s:=by
     have:mBin opIx (mv 0) (mUn opNeg (mc (.int 1))) E s=.ok (tp2 q) s:=by
      refine bin_ok rfl rfl ?_
      show(need (atI (ps.map tp2) (-1)) λ v=>R.ok v s)=_
      rw[at_last _ .non (by simpa using hne),eq];rfl
     exact bin_ok this rfl rfl
    have e2:mBin opIsN (mBin opIx (mBin opIx (mv 0) (mUn opNeg (mc (.int 1)))) (mc (.int 0))) (mc .non) E s=.ok (.bl (isNon q.1)) s:=bin_ok e1 rfl rfl
    have src:srcV' (mSl (mv 0) oN (oS (mUn opNeg (mc (.int 1))))) E s=.ok ((ps.dropLast).map λ p=>AV.tup [p.1,p.2],[]) s:=by
     show R.ok (cutA (ps.map tp2) none (some (-1)),[]) s=_
     rw[cut_last,<-List.map_dropLast];rfl
    have lc:lComp [("upto",none),("part",none)] (srcV' (mSl (mv 0) oN (oS (mUn opNeg (mc (.int 1)))))) (gT 2 (gCons' (gN 0) (gCons' (gN 1) gNil'))) cYes (mv 0) E s=.ok (ps.dropLast.map (·.1)) s:=by
     unfold lComp
     rw[src,bind_ok',if_pos (by simp only[List.length_map,List.length_dropLast];rw[List.length_map]at hl;omega)]
     exact(comp_map2 (λ a _=>a) (gOk_nil s) ps.dropLast [] none none λ p _=>rfl).trans (by simp)
    have e3:gcE (mCall 1 f_are_uptos (pCons (mNew (lComp [("upto",none),("part",none)] (srcV' (mSl (mv 0) oN (oS (mUn opNeg (mc (.int 1)))))) (gT 2 (gCons' (gN 0) (gCons' (gN 1) gNil'))) cYes (mv 0))) pNil)) E s=.ok (.bl (upOk 1 (ps.dropLast.map (·.1)))) s:=by
     refine gc_ok (z:=[.lst (ps.dropLast.map (·.1))]) ?_ rfl
     unfold mCall pCons pNil
     rw[new_ok lc,bind_ok']
     exact uptos06_eq (lst_last _ _) λ u hu=>by
      obtain⟨p,hp',rfl⟩:=List.mem_map.mp hu
      obtain⟨t,ht⟩:=(hpm p (List.dropLast_subset _ hp')).1.leaf.1
      exact⟨t,tag_app ht⟩
    refine(fn_rt (if_f (or_f k0 k1) (if_f (not_ok (x:=true) (t_ok k2)) (ret_ok (and_ok e2 λ _=>e3))))).trans ?_
    rw[isRt_eq,f1,f2,eq,<-List.map_dropLast,List.map_map]
    rfl
def risI:List AV->Bool
 | a :: b :: r=>decide (nOf a < nOf b) && risI (b :: r)
 | _=>true
theorem risI_zip:∀ vs:List AV,((vs.zip (vs.drop 1)).all λ p=>decide (nOf p.1 < nOf p.2))=risI vs
 | []=>rfl
 | [_]=>rfl
 | a :: b :: r=>by
  show(decide (nOf a < nOf b) && (((b :: r).zip r).all λ p=>decide (nOf p.1 < nOf p.2)))=_
  have:=risI_zip (b :: r)
  rw[show(b :: r).drop 1=r from rfl]at this
  rw[this];rfl
theorem risI_all:∀ {a:AV}{r:List AV},risI (a :: r)=true->∀ b∈r,nOf a < nOf b
 | a,[],_,b,h=>by cases h
 | a,c :: r,h,b,hb=>by
  have h:(decide (nOf a < nOf c) && risI (c :: r))=true:=h
  rw[Bool.and_eq_true_iff]at h
  have h1:=of_decide_eq_true h.1
  rcases List.mem_cons.mp hb with rfl|hb
  ·exact h1
  ·have:=risI_all h.2 b hb;omega
theorem from_mono {a b c:Int}{v:AV}(h:isFrom a b v=true)(k:c<=nOf v):isFrom c b v=true:=by
 cases v with
 | int i=>
  have h:(decide (a<=i) && decide (i<=b))=true:=h
  rw[Bool.and_eq_true_iff]at h
  show(decide (c<=i) && decide (i<=b))=true
  rw[h.2,decide_eq_true (show c<=i from k)];rfl
 | _=>cases h
theorem from_le {a b:Int}{v:AV}(h:isFrom a b v=true):a<=nOf v:=by
 cases v with
 | int i=>
  have h:(decide (a<=i) && decide (i<=b))=true:=h
  rw[Bool.and_eq_true_iff]at h
  exact of_decide_eq_true h.1
 | _=>cases h
theorem up_iff:∀ (vs:List AV)(l:Int),upOk l vs=(vs.all (isFrom l 1000000) && risI vs)
 | [],_=>rfl
 | u :: r,l=>by
  show(isFrom l 1000000 u && upOk (nOf u+1) r)=(isFrom l 1000000 u && r.all (isFrom l 1000000) && risI (u :: r))
  rw[up_iff r]
  cases f:isFrom l 1000000 u with
  | false=>rfl
  | true=>
   have hl:=from_le f
   rw[Bool.true_and,Bool.true_and,Bool.eq_iff_iff,Bool.and_eq_true_iff,Bool.and_eq_true_iff]
   constructor
   ·rintro⟨h1,h2⟩
    have h1:=List.all_eq_true.mp h1
    refine⟨List.all_eq_true.mpr λ x hx=>from_mono (h1 x hx) (by have:=from_le (h1 x hx);omega),?_⟩
    cases r with
    | nil=>rfl
    | cons b r=>
     show(decide (nOf u < nOf b) && risI (b :: r))=true
     rw[h2,decide_eq_true (by have:=from_le (h1 b (.head _));omega)];rfl
   ·rintro⟨h1,h2⟩
    have h1:=List.all_eq_true.mp h1
    refine⟨List.all_eq_true.mpr λ x hx=>from_mono (h1 x hx) (by have:=risI_all h2 x hx;omega),?_⟩
    cases r with
    | nil=>rfl
    | cons b r=>
     have h2:(decide (nOf u < nOf b) && risI (b :: r))=true:=h2
     exact(Bool.and_eq_true_iff.mp h2).2
theorem all_mapS {l:Lc}{src:Src}{elt:Ev}{env:En}{s s1:S}{xs:List AV}{gs:Gd}{rest:En}(f:AV->Bool)(e1:src env s=.ok (xs,gs) s1) (hl:xs.length<=sizeLine)(hg:gOk gs s1)(e2:srcE l env=none :: rest)(h:∀ v∈xs,elt (some v :: rest) s1=.ok (.bl (f v)) s1) :
  gOp qAll (lComp l src (gN 0) cYes elt) env s=.ok (.bl (xs.all f)) s1:=by
 unfold gOp lComp
 rw[e1,bind_ok,if_pos hl,e2,comp_map (λ v=>.bl (f v)) hg xs [] none h]
 show(need (blsO (xs.map λ v=>.bl (f v))) λ ns=>R.ok (AV.bl (ns.all id)) s1)=_
 rw[blsO_map]
 show R.ok (AV.bl ((xs.map f).all id)) s1=_
 rw[List.all_map];rfl
theorem cut_mid {α:Type}(xs:List α):cutA xs (some 1) (some (-1))=xs.dropLast.drop 1:=by
 unfold cutA
 have h1:HT.sIx xs.length 0 (some 1)=min 1 xs.length:=HT.sIx_nat xs.length 0 1
 have h2:HT.sIx xs.length xs.length (some (-1))=xs.length - 1:=by
  show(if (-1:Int) < 0 then ((-1:Int)+(xs.length:Int)).toNat else min (-1:Int).toNat xs.length)=_
  rw[if_pos (by decide)];omega
 rw[h1,h2,List.dropLast_eq_take,List.drop_take]
 cases xs with
 | nil=>rfl
 | cons a r=>simp
theorem zip_pre {α:Type}:∀ (xs ys zs:List α),zs.length<=xs.length->(xs++ys).zip zs=xs.zip zs
 | _,_,[],_=>by simp
 | [],_,z :: r,h=>by simp at h
 | x :: xs,ys,z :: zs,h=>by
  show(x,z) :: (xs++ys).zip zs=(x,z) :: xs.zip zs
  rw[zip_pre xs ys zs (by simpa using h)]
theorem zip_short {α:Type}(xs:List α):xs.zip (xs.dropLast.drop 1)=xs.dropLast.zip (xs.dropLast.drop 1):=by
 rcases List.eq_nil_or_concat xs with rfl|⟨l,a,rfl⟩
 ·rfl
 ·rw[List.concat_eq_append,List.dropLast_concat]
  exact zip_pre l [a] _ (by simp)
theorem lrates_eq {v:AV}{s:S}(h:okD 3 s v):∃ z,f__law_are_rates [v] s=.ok (.bl (isRt v)) (s++z):=by
 have ht:=h.leaf.1
 have fin:∀ {u:AV}{z:S},b__law_are_rates [some v,none] s=.rt u (s++z)->f__law_are_rates [v] s=.ok u (s++z):=λ {u z} h=>by
  unfold f__law_are_rates fnR
  show(match b__law_are_rates [some v,none] s with|.rt v s1=>R.ok v s1|.nx _ s1=>.ok .non s1|.ex c s1=>.ex c s1|_=>.bad)=_
  rw[h]
 cases hs:isTy "tuple" v s with
 | false=>
  rw[show isRt v=false from ?_]
  ·exact⟨[],fin (by rw[List.append_nil];exact if_t (or_t (not_ok (x:=false) (t_ok (isi_b ht rfl hs)))))⟩
  ·unfold isRt;split
   ·rw[ty_tupT]at hs;cases hs
   ·rfl
 | true=>
  obtain⟨xs,rfl⟩:=ty_tup hs
  obtain⟨hl,h2⟩:=h.2 _ rfl
  let E:En:=[some (.tup xs),none]
  have k0:=not_ok (x:=true) (t_ok (isi_b (m:=mv 0) (env:=E) ht rfl hs))
  have k1:cB (mBin opNin (mOp opLen (pCons (mv 0) pNil)) (mTup (pCons (mc (.int 2)) (pCons (mc (.int 3)) (pCons (mc (.int 4)) pNil))))) E s=.ok (!(decide (2<=xs.length) && decide (xs.length<=4))) s:=by
   refine b_ok (bin_ok (op1_ok rfl lenT) (tup_ok (vs:=[.int 2,.int 3,.int 4]) rfl (by simp)) ?_)
   show(if flatA (.int xs.length)=true/\[AV.int 2,.int 3,.int 4].all flatA=true then R.ok (AV.bl (!inA (.int xs.length) [.int 2,.int 3,.int 4])) s else .bad)=_
   rw[if_pos ⟨rfl,rfl⟩]
   congr 3
   show(decide (_=_) || (decide (_=_) || (decide (_=_) || false)))=_
   rw[Bool.eq_iff_iff]
   simp
   omega
  cases f1:decide (2<=xs.length) && decide (xs.length<=4) with
  | false=>
   rw[f1]at k1
   rw[show isRt (.tup xs)=false from by rw[isRt_eq,f1];rfl]
   exact⟨[],fin (by rw[List.append_nil];exact if_t (or_f k0 k1))⟩
  | true=>
   rw[f1]at k1
   have k2:gOp qAll (lComp [("_law_rate",none)] (srcV' (mv 0)) (gN 0) cYes (mAnd (mUn (opIsi "tuple") (mv 0)) (mAnd (mBin opEq (mOp opLen (pCons (mv 0) pNil)) (mc (.int 2))) (mCall 1 f__law_is_part (pCons (mBin opIx (mv 0) (mc (.int 1))) pNil))))) E s=.ok (.bl (xs.all isRate)) s:=
    all_map (rest:=[]) (gs:=[]) isRate rfl hl (gOk_nil s) rfl λ x hx=>lrate_eq (h2 x hx)
   cases f2:xs.all isRate with
   | false=>
    rw[f2]at k2
    rw[show isRt (.tup xs)=false from by rw[isRt_eq,f1,f2];rfl]
    exact⟨[],fin (by rw[List.append_nil];exact if_f (or_f k0 k1) (if_t (not_ok (x:=false) (t_ok k2))))⟩
   | true=>
    rw[f2]at k2
    obtain⟨ps,rfl,hp⟩:=rates_pairs f2
    have hpm:=pairs_mem h
    have hne:ps≠[]:=by rintro rfl;simp at f1
    obtain⟨q,hq,eq⟩:=last_tp hne
    rw[List.length_map]at hl f1
    have hl4:ps.length<=4:=by have:=(Bool.and_eq_true_iff.mp f1).2;exact of_decide_eq_true this
    let us:List AV:=ps.map (·.1)
    have lc:lComp [("_law_rate",none)] (srcV' (mv 0)) (gN 0) cYes (mBin opIx (mv 0) (mc (.int 0))) E s=.ok us s:=by
     unfold lComp
     rw[show srcV' (mv 0) E s=.ok (ps.map tp2,[]) s from rfl,bind_ok',if_pos (by rw[List.length_map];exact hl)]
     refine(comp_map uOf (gOk_nil s) (ps.map tp2) [] none λ x hx=>?_).trans ?_
     ·obtain⟨p,_,rfl⟩:=List.mem_map.mp hx;rfl
     ·rw[List.nil_append,List.map_map];rfl
    let s1:S:=s++[.lst us]
    let E1:En:=[some (.tup (ps.map tp2)),some (.ref s.length)]
    have l1:lstO s1 s.length=some us:=lst_last _ _
    have e1:sSet 1 (mNew (lComp [("_law_rate",none)] (srcV' (mv 0)) (gN 0) cYes (mBin opIx (mv 0) (mc (.int 0))))) E s=.nx E1 s1:=by unfold sSet;rw[new_ok lc];rfl
    have une:us≠[]:=by simpa[us]using hne
    have ul:us.getLastD .non=q.1:=by
     show(ps.map (·.1)).getLastD .non=_
     rw[List.getLastD_eq_getLast?,List.getLast?_map]
     rw[List.getLastD_eq_getLast?,List.getLast?_map]at eq
     cases e:ps.getLast? with
     | none=>exact absurd (List.getLast?_eq_none_iff.mp e) hne
     | some p=>
      rw[e]at eq
      have eq:tp2 p=tp2 q:=eq
      cases p;cases q;cases eq;rfl
    have k3:cB (mBin opIsntN (mBin opIx (mv 1) (mUn opNeg (mc (.int 1)))) (mc .non)) E1 s1=.ok (!isNon q.1) s1:=by
     refine b_ok (bin_ok (bin_ok rfl rfl ?_) rfl rfl)
     show(need (lstO s1 s.length) λ xs=>need (atI xs (-1)) λ v=>R.ok v s1)=_
     rw[l1,need_some,at_last _ .non une,ul];rfl
    let s2:S:=s1++[.lst us.dropLast]
    have l2:lstO s2 s1.length=some us.dropLast:=lst_last _ _
    have m2:mSl (mv 1) oN (oS (mUn opNeg (mc (.int 1)))) E1 s1=.ok (.ref s1.length) s2:=by
     show(need (lstO s1 s.length) λ xs=>R.ok (AV.ref s1.length) (s1++[.lst (cutA xs none (some (-1)))]))=_
     rw[l1,need_some,cut_last]
    have src:srcV' (mSl (mv 1) oN (oS (mUn opNeg (mc (.int 1))))) E1 s1=.ok (us.dropLast,[(s1.length,us.dropLast)]) s2:=by
     unfold srcV'
     rw[m2,bind_ok']
     show need (lstO s2 s1.length) _=_
     rw[l2];rfl
    have tg:∀ u∈us,∀ st:S,(∃ t,tagOf u (s++st)=some t):=λ u hu st=>by
     obtain⟨p,hp',rfl⟩:=List.mem_map.mp hu
     obtain⟨t,ht⟩:=(hpm p hp').1.leaf.1
     exact⟨t,tag_app ht⟩
    have ld:us.dropLast.length<=sizeLine:=szl (by rw[List.length_dropLast];simp only[us,List.length_map];omega)
    have k4:gOp qAll (lComp [("_law_upto",none)] (srcV' (mSl (mv 1) oN (oS (mUn opNeg (mc (.int 1)))))) (gN 0) cYes (mCall 3 f__law_whole06 (pCons (mv 0) (pCons (mc (.int 1)) (pCons (mBin opPow (mc (.int 10)) (mc (.int 6))) pNil))))) E1 s1=.ok (.bl (us.dropLast.all (isFrom 1 1000000))) s2:=by
     refine all_mapS (rest:=[]) (isFrom 1 1000000) src ld ((Mm.gOk_one _ _ _).mpr l2) rfl λ u hu=>call3 rfl rfl (v3:=.int 1000000) ?_ (whole06_eq ?_)
     ·refine bin_ok rfl rfl ?_
      show(if CPow 10 6 then R.ok (AV.int ((10:Int) ^ (6:Int).toNat)) s2 else .bad)=_
      rw[if_pos (by decide)];rfl
     ·have:=tg u (List.dropLast_subset _ hu) ([.lst us]++[.lst us.dropLast])
      rw[<-List.append_assoc]at this
      exact this
    have run:∀ {r:RS},sSeq (sIf (cOr (cB (mBin opIsntN (mBin opIx (mv 1) (mUn opNeg (mc (.int 1)))) (mc .non))) (cNot (cT (gOp qAll (lComp [("_law_upto",none)] (srcV' (mSl (mv 1) oN (oS (mUn opNeg (mc (.int 1)))))) (gN 0) cYes (mCall 3 f__law_whole06 (pCons (mv 0) (pCons (mc (.int 1)) (pCons (mBin opPow (mc (.int 10)) (mc (.int 6))) pNil))))))))) (sRet (mc (.bl false))) sSkip)
      (sRet (gOp qAll (lComp [("_law_one",none),("_law_other",none)] (srcZ (mv 1) (mSl (mv 1) (oS (mc (.int 1))) (oS (mUn opNeg (mc (.int 1)))))) (gT 2 (gCons' (gN 0) (gCons' (gN 1) gNil'))) cYes (mBin opLt (mv 0) (mv 1))))) E1 s1=r->b__law_are_rates E s=r:=by
     intro r hr
     refine if_f (or_f k0 k1) (if_f (not_ok (x:=true) (t_ok k2)) ?_)
     show(match sSet 1 (mNew (lComp [("_law_rate",none)] (srcV' (mv 0)) (gN 0) cYes (mBin opIx (mv 0) (mc (.int 0))))) E s with|.nx e s1=>_|r=>r)=r
     rw[e1]
     exact hr
    have eR:isRt (.tup (ps.map tp2))=(isNon q.1 && (us.dropLast.all (isFrom 1 1000000) && risI us.dropLast)):=by
     rw[isRt_eq,f2,List.length_map,f1,eq,<-List.map_dropLast,List.map_map,up_iff]
     show(true && (true && (isNon q.1 && (((ps.dropLast.map (·.1)).all (isFrom 1 1000000)) && risI (ps.dropLast.map (·.1))))))=_
     rw[Bool.true_and,Bool.true_and,List.map_dropLast]
    rw[eR]
    cases f3:isNon q.1 with
    | false=>
     rw[f3]at k3
     refine⟨[.lst us],fin (run ?_)⟩
     exact if_t (or_t k3)
    | true=>
     rw[f3]at k3
     have kk:cOr (cB (mBin opIsntN (mBin opIx (mv 1) (mUn opNeg (mc (.int 1)))) (mc .non))) (cNot (cT (gOp qAll (lComp [("_law_upto",none)] (srcV' (mSl (mv 1) oN (oS (mUn opNeg (mc (.int 1)))))) (gN 0) cYes (mCall 3 f__law_whole06 (pCons (mv 0) (pCons (mc (.int 1)) (pCons (mBin opPow (mc (.int 10)) (mc (.int 6))) pNil)))))))) E1 s1=.ok (!us.dropLast.all (isFrom 1 1000000)) s2:=by
      unfold cOr
      rw[k3]
      show cNot _ E1 s1=_
      unfold cNot cT
      rw[k4];rfl
     cases f4:us.dropLast.all (isFrom 1 1000000) with
     | false=>
      rw[f4]at kk
      refine⟨[.lst us]++[.lst us.dropLast],fin (run ?_)⟩
      unfold sSeq sIf
      rw[kk,<-List.append_assoc];rfl
     | true=>
      rw[f4]at kk
      let s3:S:=s2++[.lst (us.dropLast.drop 1)]
      have l1':lstO s2 s.length=some us:=lst_old l1
      have m3:mSl (mv 1) (oS (mc (.int 1))) (oS (mUn opNeg (mc (.int 1)))) E1 s2=.ok (.ref s2.length) s3:=by
       show(need (lstO s2 s.length) λ xs=>R.ok (AV.ref s2.length) (s2++[.lst (cutA xs (some 1) (some (-1)))]))=_
       rw[l1',need_some,cut_mid]
      refine⟨[.lst us]++[.lst us.dropLast]++[.lst (us.dropLast.drop 1)],fin (run ?_)⟩
      unfold sSeq sIf
      rw[kk]
      show(sRet _ E1 s2)=_
      have zs:srcZ (mv 1) (mSl (mv 1) (oS (mc (.int 1))) (oS (mUn opNeg (mc (.int 1))))) E1 s2=.ok ((us.dropLast.zip (us.dropLast.drop 1)).map λ p=>AV.tup [p.1,p.2],[(s.length,us),(s2.length,us.dropLast.drop 1)]) s3:=by
       unfold srcZ
       show((mSl (mv 1) (oS (mc (.int 1))) (oS (mUn opNeg (mc (.int 1)))) E1 s2).bind λ w s2=>need (zipO (.ref s.length) w s2) λ r=>R.ok r s2)=_
       rw[m3]
       show(need (zipO (.ref s.length) (.ref s2.length) s3) λ r=>R.ok r s3)=_
       have q1:seqK false (.ref s.length) s3=some (us,[(s.length,us)]):=by
        show(lstO s3 s.length).map _=_;rw[show lstO s3 s.length=some us from lst_old l1'];rfl
       have q2:seqK false (.ref s2.length) s3=some (us.dropLast.drop 1,[(s2.length,us.dropLast.drop 1)]):=by
        show(lstO s3 s2.length).map _=_;rw[show lstO s3 s2.length=some (us.dropLast.drop 1) from lst_last _ _];rfl
       rw[show zipO (.ref s.length) (.ref s2.length) s3=(match seqK false (.ref s.length) s3,seqK false (.ref s2.length) s3 with|some (xs,g),some (ys,h)=>some (zipA xs ys,g++h)|_,_=>none) from rfl,q1,q2]
       show R.ok (zipA us (us.dropLast.drop 1),[(s.length,us),(s2.length,us.dropLast.drop 1)]) s3=_
       unfold zipA
       rw[zip_short]
      have hi:∀ u∈us.dropLast,∃ i:Int,u=.int i:=λ u hu=>by
       have:=List.all_eq_true.mp f4 u hu
       cases u with
       | int i=>exact⟨i,rfl⟩
       | _=>cases this
      have kz:=all_map2 (l:=[("_law_one",none),("_law_other",none)]) (elt:=mBin opLt (mv 0) (mv 1)) (λ a b=>decide (nOf a < nOf b)) zs (by rw[List.length_zip,List.length_dropLast];simp only[us,List.length_map];omega) (by
       intro g hg
       rcases List.mem_cons.mp hg with rfl|hg
       ·exact lst_old l1'
       ·rcases List.mem_cons.mp hg with rfl|hg
        ·exact lst_last _ _
        ·cases hg) rfl (λ p hp=>by
       obtain⟨i,hi1⟩:=hi p.1 (List.of_mem_zip hp).1
       obtain⟨j,hj1⟩:=hi p.2 (List.drop_subset _ _ (List.of_mem_zip hp).2)
       rw[hi1,hj1];rfl)
      unfold sRet
      rw[kz]
      show RS.rt (AV.bl _) s3=_
      rw[risI_zip]
      show RS.rt _ _=RS.rt _ (s++([.lst us]++[.lst us.dropLast]++[.lst (us.dropLast.drop 1)]))
      rw[<-List.append_assoc,<-List.append_assoc];rfl
theorem tf_le {b:Nat}:∀ (ts:List Str) (k:Nat) (acc:Str),(∀ t∈ts,t.length<=b)->(textFrom k acc ts).length<=acc.length+ts.length * (b+2)
 | [],k,acc,_=>by show acc.length<=_;omega
 | t :: r,k,acc,h=>by
  have ih:=tf_le r (k+1) (acc++(if k > 0 then ", " else "":String)++t) λ x hx=>h x (.tail _ hx)
  have ht:=h t (.head _)
  have e:(acc++(if k > 0 then ", " else "":String)++t).length=acc.length+(if k > 0 then 2 else 0)+t.length:=by
   rw[strLen_append,strLen_append]
   split<;>rfl
  show(textFrom (k+1) _ r).length<=_
  rw[e]at ih
  have:(if k > 0 then 2 else 0)<=2:=by split<;>omega
  rw[List.length_cons,Nat.succ_mul]
  omega
theorem list_le {b:Nat}{ts:List Str}(h:∀ t∈ts,t.length<=b):(listText ts).length<=ts.length * (b+2)+2:=by
 have:=tf_le ts 0 "[" h
 unfold listText
 rw[strLen_append]
 have e1:("[":Str).length=1:=by decide +kernel
 have e2:("]":Str).length=1:=by decide +kernel
 rw[e1]at this;rw[e2];omega
theorem join_le {b:Nat}:∀ (ts:List Str),(∀ t∈ts,t.length<=b)->(Str.join ", " ts).length<=ts.length * (b+2)
 | [],_=>Nat.le_trans (Nat.le_of_eq (show(Str.join ", " []).length=0 by decide +kernel)) (Nat.zero_le _)
 | [x],h=>by show x.length<=_;have:=h x (.head _);simp;omega
 | x :: y :: r,h=>by
  have ih:=join_le (y :: r) λ t ht=>h t (.tail _ ht)
  have hx:=h x (.head _)
  show(x++", "++Str.join ", " (y :: r)).length<=_
  rw[strLen_append,strLen_append]
  have e2:((", ":String):Str).length=2:=rfl
  rw[e2,List.length_cons,Nat.succ_mul];omega
theorem tup_le {b:Nat}{ts:List Str}(h:∀ t∈ts,t.length<=b):(tupleText ts).length<=ts.length * (b+2)+3:=by
 have:=join_le ts h
 unfold tupleText
 rw[strLen_append,strLen_append]
 have e1:("(":Str).length=1:=by decide +kernel
 have e2:∀ c:Bool,((if c then ",)" else ")":String):Str).length<=2:=by intro c;cases c<;>decide +kernel
 have:=e2 (ts.length == 1)
 rw[e1];omega
def fdL:AV->Prop
 | .non=>True
 | .bl _=>True
 | .int i=>Fit 900 i
 | .str t=>Asc t 40
 | _=>False
def fd:Nat->AV->Prop
 | 0,v=>fdL v
 | n+1,v=>fdL v∨∃ xs,v=.tup xs/\xs.length<=24/\∀ x∈xs,fd n x
theorem okD_of_leaf {s:S}{v:AV}(h:leafOk s v)(k:∀ xs,v≠.tup xs):∀ m,okD m s v
 | 0=>h
 | _+1=>⟨h,λ xs e=>absurd e (k xs)⟩
theorem shownAll_mem:∀ {l:List PyData}{t:Str},t∈PyData.shownAll l->∃ d∈l,t=d.shown
 | [],t,h=>by simp[PyData.shownAll]at h
 | d :: r,t,h=>by
  simp only[PyData.shownAll,List.mem_cons]at h
  rcases h with rfl|h
  ·exact⟨d,.head _,rfl⟩
  ·obtain⟨e,he,k⟩:=shownAll_mem h;exact⟨e,.tail _ he,k⟩
theorem shownAll_len:∀ l:List PyData,(PyData.shownAll l).length=l.length
 | []=>by simp[PyData.shownAll]
 | d :: r=>by simp[PyData.shownAll,shownAll_len r]
theorem mapM_of {P:PyData->Prop}{f:AV->Option PyData}:∀ {xs:List AV},(∀ x∈xs,∃ d,f x=some d/\P d)->∃ l,xs.mapM f=some l/\l.length=xs.length/\∀ d∈l,P d
 | [],_=>⟨[],by rw[List.mapM_nil];rfl,rfl,(λ _ h=>nomatch h)⟩
 | x :: r,h=>by
  obtain⟨d,e,hd⟩:=h x (.head _)
  obtain⟨l,e2,h2,h3⟩:=mapM_of (xs:=r) λ y hy=>h y (.tail _ hy)
  refine⟨d :: l,by rw[List.mapM_cons,e,e2];rfl,by simp[h2],λ z hz=>?_⟩
  rcases List.mem_cons.mp hz with rfl|hz
  ·exact hd
  ·exact h3 z hz
theorem inabc {c:Nat}(h:c < 128)(s:S):mBin opInS (mv 0) (mc (.str "abcdefghijklmnopqrstuvwxyz")) [some (sgn c)] s=.ok (.bl (smC c)) s:=by
 show R.ok (AV.bl (Txt.contains "abcdefghijklmnopqrstuvwxyz" ⟨#[c]⟩)) s=_
 rw[abc_in c h]
def eqS (t:Str):AV->Bool
 | .str u=>decide (u=t)
 | _=>false
def kOk (s:S):AV->Prop
 | .sq _=>False
 | .ref i=>(∃ xs,s[i]? = some (.lst xs))∨∃ d,s[i]? = some (.dK d)
 | _=>True
theorem eqT_ok {s:S}{v:AV}{t:Str}(h:kOk s v):opEqT v (.str t) s=.ok (.bl (eqS t v)) s:=by
 cases v with
 | sq xs=>exact h.elim
 | ref i=>
  unfold opEqT
  rcases h with⟨xs,e⟩|⟨d,e⟩
  ·simp only[e];rfl
  ·simp only[e];rfl
 | _=>rfl
def isRo:AV->Bool
 | .tup [k,q,v]=>isNm q && (bif eqS "of" k || eqS "left" k then isPt v else bif eqS "steps" k then isRt v else (eqS "length" k && isFrom 1 1000 v))
 | _=>false
theorem isRo_eq (k q v:AV):isRo (.tup [k,q,v])=(isNm q && (bif eqS "of" k || eqS "left" k then isPt v else bif eqS "steps" k then isRt v else (eqS "length" k && isFrom 1 1000 v))):=rfl
def okR (s:S)(v:AV):Prop:=okD 4 s v/\∀ k q p,v=.tup [k,q,p]->kOk s k
theorem isRo_no {v:AV}(h:isTup 3 v=false):isRo v=false:=by
 unfold isRo
 split
 ·exact absurd h (by simp[isTup])
 ·rfl
theorem three_of {xs:List AV}(h:isTup 3 (.tup xs)=true):∃ a b c,xs=[a,b,c]:=by
 have h:((xs.length:Int))=3:=by simpa[isTup]using h
 match xs,h with
 | [a,b,c],_=>exact⟨a,b,c,rfl⟩
 | [],h=>simp at h
 | [_],h=>simp at h
 | [_,_],h=>simp at h
 | _ :: _ :: _ :: _ :: r,h=>simp at h;omega
theorem okD_down:∀ {n:Nat}{s:S}{v:AV},okD (n+1) s v->okD n s v
 | 0,_,_,h=>h.1
 | n+1,_,_,h=>⟨h.1,λ xs e=>⟨(h.2 xs e).1,λ x hx=>okD_down ((h.2 xs e).2 x hx)⟩⟩
theorem ifr_t {c:Eb}{m:Ev}{b:Ms}{env:En}{s:S}{v:AV}(h:c env s=.ok true s)(k:m env s=.ok v s):sSeq (sIf c (sRet m) sSkip) b env s=.rt v s:=by
 unfold sSeq sIf sRet;rw[h]
 show(match (m env s).bindS λ v s1=>RS.rt v s1 with|.nx e s1=>b e s1|r=>r)=_
 rw[k];rfl
theorem ifr_f {c:Eb}{m:Ev}{b:Ms}{env:En}{s:S}{r:RS}(h:c env s=.ok false s)(k:b env s=r):sSeq (sIf c (sRet m) sSkip) b env s=r:=by
 unfold sSeq sIf;rw[h];exact k
theorem gcE_same {m:Ev}{env:En}{s:S}{b:Bool}(h:m env s=.ok (.bl b) s):gcE m env s=.ok (.bl b) s:=gc_ok (z:=[]) (by rw[List.append_nil];exact h) rfl
theorem is_row_eq {v:AV}{s:S}(h:okR s v):f_is_row [v] s=.ok (.bl (isRo v)) s:=by
 have ht:=h.1.leaf.1
 cases hs:isTup 3 v with
 | false=>
  rw[isRo_no hs]
  exact fn_rt (if_t (not_ok (x:=false) (t_ok (call2 rfl rfl (hs ▸ is_tuple_eq ht)))))
 | true=>
  obtain⟨xs,rfl⟩:=tup_of hs
  obtain⟨k,q,p,rfl⟩:=three_of hs
  obtain⟨_,h2⟩:=h.1.2 _ rfl
  have hk:=h.2 k q p rfl
  refine fn_rt (if_f (not_ok (x:=true) (t_ok (call2 rfl rfl (hs ▸ is_tuple_eq ht)))) ?_)
  let E:En:=[some (.tup [k,q,p]),some k,some q,some p]
  show sSeq _ _ E s=_
  have kn:cNot (cT (mCall 1 f_is_name (pCons (mv 2) pNil))) E s=.ok (!isNm q) s:=not_ok (t_ok (call1 rfl (is_name_eq (h2 q (by simp)).leaf)))
  have ek:∀ t:Str,mBin opEqT (mv 1) (mc (.str t)) E s=.ok (.bl (eqS t k)) s:=λ t=>bin_ok rfl rfl (eqT_ok hk)
  have hp:=h2 p (by simp)
  rw[isRo_eq]
  cases f1:isNm q with
  | false=>rw[f1]at kn;exact if_t kn
  | true=>
   rw[f1]at kn
   refine if_f kn ?_
   have k1:=or_ok (b_ok (ek "of")) λ _=>b_ok (ek "left")
   cases f2:eqS "of" k || eqS "left" k with
   | true=>
    rw[f2]at k1
    exact ifr_t k1 (call1 rfl (part06_eq (okD_down (okD_down hp))))
   | false=>
    rw[f2]at k1
    refine ifr_f k1 ?_
    have k2:=b_ok (ek "steps")
    cases f3:eqS "steps" k with
    | true=>
     rw[f3]at k2
     exact ifr_t k2 (gcE_same (call1 rfl (rates06_eq hp)))
    | false=>
     rw[f3]at k2
     exact ifr_f k2 (ret_ok (and_ok (x:=eqS "length" k) (y:=isFrom 1 1000 p) (ek "length") λ _=>call3 rfl rfl rfl (from_eq hp.leaf.1)))
theorem eqS_no {k:AV}{s:S}(h:isTy "str" k s=false)(t:Str):eqS t k=false:=by
 cases k with
 | str u=>rw[ty_strT]at h;cases h
 | _=>rfl
theorem lrow_eq {v:AV}{s:S}(h:okR s v):∃ z,f__law_is_row06 [v] s=.ok (.bl (isRo v)) (s++z):=by
  have nil:∀ {r:R AV},r=.ok (.bl (isRo v)) s->∃ z,r=.ok (.bl (isRo v)) (s++z):=λ h=>⟨[],by rw[List.append_nil];exact h⟩
  have ht:=h.1.leaf.1
  cases hs:isTy "tuple" v s with
  | false=>
    refine nil ?_
    rw[isRo_no (by rw[<-isTup_and (s:=s),hs];rfl)]
    exact fn_rt (if_t (or_t (not_ok (x:=false) (t_ok (isi_b ht rfl hs)))))
  | true=>
    obtain⟨xs,rfl⟩:=ty_tup hs
    have k0:=not_ok (x:=true) (t_ok (isi_b (m:=mv 0) (env:=[some (AV.tup xs)]) ht rfl hs))
    have kl:cB (mBin opNe (mOp opLen (pCons (mv 0) pNil)) (mc (.int 3))) [some (.tup xs)] s=.ok (!(isTup 3 (.tup xs))) s:=b_ok (bin_ok (op1_ok rfl lenT) rfl rfl)
    cases h3:isTup 3 (.tup xs) with
    | false=>
      refine nil ?_
      rw[isRo_no h3]
      rw[h3]at kl
      exact fn_rt (if_t (or_f k0 kl))
    | true=>
      rw[h3]at kl
      obtain⟨k,q,p,rfl⟩:=three_of h3
      obtain⟨_,h2⟩:=h.1.2 _ rfl
      have hk:=(h2 k (by simp)).leaf
      have hq:=(h2 q (by simp)).leaf
      have hp:=h2 p (by simp)
      let E:En:=[some (.tup [k,q,p])]
      have e0:mBin opIx (mv 0) (mc (.int 0)) E s=.ok k s:=rfl
      have e1:mBin opIx (mv 0) (mc (.int 1)) E s=.ok q s:=rfl
      have e2:mBin opIx (mv 0) (mc (.int 2)) E s=.ok p s:=rfl
      have kk:=not_ok (t_ok (isi_ok (n:="str") hk.1 e0))
      have kq:=not_ok (t_ok (isi_ok (n:="str") hq.1 e1))
      cases hks:isTy "str" k s with
      | false=>
        refine nil ?_
        rw[hks]at kk
        rw[isRo_eq,eqS_no hks,eqS_no hks,eqS_no hks,eqS_no hks]
        refine(fn_rt (if_f (or_f k0 kl) (if_t (or_t kk)))).trans ?_
        cases isNm q<;>rfl
      | true=>
        rw[hks]at kk
        cases hqs:isTy "str" q s with
        | false=>
          refine nil ?_
          rw[hqs]at kq
          rw[isRo_eq,isNm_no hqs]
          exact fn_rt (if_f (or_f k0 kl) (if_t (or_f kk kq)))
        | true=>
          rw[hqs]at kq
          obtain⟨t,rfl⟩:=ty_str hks
          obtain⟨u,rfl⟩:=ty_str hqs
          have hc:∀ c∈u.cps.toList,c < 128:=λ c hc=>of_decide_eq_true (Array.all_eq_true'.mp hq.2.1 c (Array.mem_toList_iff.mp hc))
          have l18:mNinR (mOp opLen (pCons (mBin opIx (mv 0) (mc (.int 1))) pNil)) 1 9 E s=.ok (.bl (!(decide (1<=u.length) && decide (u.length<=8)))) s:=by
            unfold mNinR
            rw[op1_ok e1 (len_wp hq.2.2)]
            show R.ok (AV.bl (!decide (1<=(u.length:Int)/\(u.length:Int) < 9))) s=_
            congr 3
            rw[Bool.eq_iff_iff]
            simp
            omega
          have kin:gOp qAll (lComp [("_law_sign",none)] (srcS (mBin opIx (mv 0) (mc (.int 1)))) (gN 0) cYes (mBin opInS (mv 0) (mc (.str "abcdefghijklmnopqrstuvwxyz")))) E s=.ok (.bl (u.cps.toList.all smC)) s:=by
            rw[all_map (rest:=[]) smV (srcS_ok e1 hq.2.1) (by rw[List.length_map];exact hq.2.2) (gOk_nil s) rfl λ v hv=>?_]
            · rw[List.all_map]
              congr 2
              congr 1
              funext c
              exact smV_sgn c
            · obtain⟨c,h1,rfl⟩:=List.mem_map.mp hv
              rw[inabc (hc c h1),smV_sgn]
          have kn:=or_ok (b_ok l18) λ _=>not_ok (t_ok kin)
          have en:(!(decide (1<=u.length) && decide (u.length<=8)) || !(u.cps.toList.all smC))=!isNm (.str u):=by
            rw[<-Bool.not_and];rfl
          rw[en]at kn
          rw[isRo_eq]
          cases f1:isNm (.str u) with
          | false=>
            rw[f1]at kn
            exact⟨[],by rw[List.append_nil];exact fn_rt (if_f (or_f k0 kl) (if_f (or_f kk kq) (if_t kn)))⟩
          | true=>
            rw[f1]at kn
            have hd:∀ {r:AV}{z:S},(sSeq (sIf (cB (mBin opEq (mBin opIx (mv 0) (mc (.int 0))) (mc (.str "length")))) (sRet (mCall 3 f__law_whole06 (pCons (mBin opIx (mv 0) (mc (.int 2))) (pCons (mc (.int 1)) (pCons (mc (.int 1000)) pNil))))) sSkip)
 (sSeq (sIf (cB (mBin opEq (mBin opIx (mv 0) (mc (.int 0))) (mc (.str "steps")))) (sRet (gcE (mCall 1 f__law_are_rates (pCons (mBin opIx (mv 0) (mc (.int 2))) pNil)))) sSkip)
 (sRet (mAnd (mBin opIn (mBin opIx (mv 0) (mc (.int 0))) (mTup (pCons (mc (.str "of")) (pCons (mc (.str "left")) pNil)))) (mCall 1 f__law_is_part (pCons (mBin opIx (mv 0) (mc (.int 2))) pNil)))))) E s=.rt r s->f__law_is_row06 [.tup [.str t,.str u,p]] s=.ok r s:=λ hr=>
              fn_rt (if_f (or_f k0 kl) (if_f (or_f kk kq) (if_f kn hr)))
            have el:∀ w:Str,cB (mBin opEq (mBin opIx (mv 0) (mc (.int 0))) (mc (.str w))) E s=.ok (decide (t=w)) s:=λ w=>b_ok (bin_ok e0 rfl rfl)
            refine⟨[],?_⟩
            rw[List.append_nil]
            refine hd (z:=[]) ?_
            show _=RS.rt (AV.bl (true && (bif decide (t="of") || decide (t="left") then isPt p else bif decide (t="steps") then isRt p else (decide (t="length") && isFrom 1 1000 p)))) s
            have l1:=el "length"
            by_cases g1:t="length"
            · rw[decide_eq_true g1]at l1
              subst g1
              exact ifr_t l1 (call3 e2 rfl rfl (whole06_eq hp.leaf.1))
            · rw[decide_eq_false g1]at l1
              refine ifr_f l1 ?_
              have l2:=el "steps"
              by_cases g2:t="steps"
              · rw[decide_eq_true g2]at l2
                subst g2
                obtain⟨z,hz⟩:=lrates_eq hp
                refine ifr_t l2 (gc_ok (z:=z) ?_ rfl)
                unfold mCall pCons pNil
                rw[e2]
                exact hz
              · rw[decide_eq_false g2]at l2
                refine ifr_f l2 (ret_ok ?_)
                have e3:mBin opIn (mBin opIx (mv 0) (mc (.int 0))) (mTup (pCons (mc (.str "of")) (pCons (mc (.str "left")) pNil))) E s=.ok (.bl (decide (t="of") || decide (t="left"))) s:=by
                  refine bin_ok e0 (tup_ok (vs:=[.str "of",.str "left"]) rfl (by simp)) ?_
                  show(if flatA (.str t)=true/\[AV.str "of",.str "left"].all flatA=true then R.ok (AV.bl (inA (.str t) [.str "of",.str "left"])) s else .bad)=_
                  rw[if_pos ⟨rfl,rfl⟩]
                  congr 2
                  show(decide (("of":Str)=t) || (decide (("left":Str)=t) || false))=_
                  rw[Bool.or_false,decide_eq_decide.mpr (eq_comm (a:=("of":Str)) (b:=t)),decide_eq_decide.mpr (eq_comm (a:=("left":Str)) (b:=t))]
                refine(and_ok e3 λ _=>call1 e2 (lpart_eq (okD_down (okD_down hp)))).trans ?_
                rw[decide_eq_false g1,decide_eq_false g2]
                cases decide (t="of") || decide (t="left")<;>rfl
def isLeft (v:AV):Bool:=eqS "left" (uOf v)
def lefts (xs:List AV):Nat:=(xs.filter isLeft).length
def isRws:AV->Bool
 | .tup xs=>decide (xs.length<=8) && (xs.all isRo && decide (lefts xs<=3))
 | _=>false
theorem isRws_eq (xs:List AV):isRws (.tup xs)=(decide (xs.length<=8) && (xs.all isRo && decide (lefts xs<=3))):=rfl
def okRs (s:S)(v:AV):Prop:=leafOk s v/\∀ xs,v=.tup xs->xs.length<=sizeLine/\∀ x∈xs,okR s x
theorem isRws_no {v:AV}{s:S}(h:isTy "tuple" v s=false):isRws v=false:=by
 cases v with
 | tup xs=>rw[ty_tupT]at h;cases h
 | _=>rfl
theorem ro_first {x:AV}(h:isRo x=true):∃ t q p,x=.tup [.str t,q,p]:=by
 unfold isRo at h
 split at h
 ·rename_i k q p
  cases k with
  | str t=>exact⟨t,q,p,rfl⟩
  | _=>rw[Bool.and_eq_true_iff]at h;exact absurd h.2 (by simp[eqS])
 ·cases h
theorem left_ok {l:Lc}{env:En}{s:S}{xs:List AV}(e1:srcV' (mv 0) env s=.ok (xs,[]) s) (hl:xs.length<=sizeLine)(e2:srcE l env=[none])(h:xs.all isRo=true):gOp qLen (lComp l (srcV' (mv 0)) (gN 0) (cB (mBin opEq (mBin opIx (mv 0) (mc (.int 0))) (mc (.str "left")))) (mv 0)) env s=.ok (.int (lefts xs)) s:=by
 unfold gOp lComp
 rw[e1,bind_ok',if_pos hl,e2,comp_filter isLeft (gOk_nil s) xs [] none λ v hv=>?_]
 ·rfl
 ·obtain⟨t,q,p,rfl⟩:=ro_first (List.all_eq_true.mp h v hv)
  exact b_ok (bin_ok rfl rfl rfl)
theorem is_rows_eq {v:AV}{s:S}(h:okRs s v):f_is_rows [v] s=.ok (.bl (isRws v)) s:=by
 have ht:=h.1.1
 cases hs:isTy "tuple" v s with
 | false=>
  rw[isRws_no hs]
  exact fn_rt (if_t (or_t (not_ok (x:=false) (t_ok (isi_b ht rfl hs)))))
 | true=>
  obtain⟨xs,rfl⟩:=ty_tup hs
  obtain⟨hl,h2⟩:=h.2 _ rfl
  let E:En:=[some (.tup xs)]
  have k0:=not_ok (x:=true) (t_ok (isi_b (m:=mv 0) (env:=E) ht rfl hs))
  have k1:cB (mBin opGt (mOp opLen (pCons (mv 0) pNil)) (mc k_MOST_ROWS)) E s=.ok (!decide (xs.length<=8)) s:=by
   refine b_ok (bin_ok (op1_ok rfl lenT) rfl ?_)
   show R.ok (AV.bl (decide ((xs.length:Int) > 8))) s=_
   congr 2
   rw[Bool.eq_iff_iff];simp;omega
  have k2:gOp qAll (lComp [("row",none)] (srcV' (mv 0)) (gN 0) cYes (gcE (mCall 1 f_is_row (pCons (mv 0) pNil)))) E s=.ok (.bl (xs.all isRo)) s:=
   all_map (rest:=[]) (gs:=[]) isRo rfl hl (gOk_nil s) rfl λ x hx=>gcE_same (call1 rfl (is_row_eq (h2 x hx)))
  rw[isRws_eq]
  cases f1:decide (xs.length<=8) with
  | false=>rw[f1]at k1;exact fn_rt (if_t (or_f k0 k1))
  | true=>
   rw[f1]at k1
   cases f2:xs.all isRo with
   | false=>rw[f2]at k2;exact fn_rt (if_f (or_f k0 k1) (if_t (not_ok (x:=false) (t_ok k2))))
   | true=>
    rw[f2]at k2
    refine(fn_rt (if_f (or_f k0 k1) (if_f (not_ok (x:=true) (t_ok k2)) (ret_ok (bin_ok (left_ok rfl hl rfl f2) rfl rfl))))).trans ?_
    show R.ok (AV.bl (decide ((lefts xs:Int)<=3))) s=_
    congr 2
    rw[Bool.eq_iff_iff];simp;omega
theorem due_eq {v:AV}{s:S}(h:okRs s v):f__law_due [v] s=.ok (.bl (isRws v)) s:=by
 have ht:=h.1.1
 cases hs:isTy "tuple" v s with
 | false=>
  rw[isRws_no hs]
  exact fn_rt (if_t (or_t (not_ok (x:=false) (t_ok (isi_b ht rfl hs)))))
 | true=>
  obtain⟨xs,rfl⟩:=ty_tup hs
  obtain⟨hl,h2⟩:=h.2 _ rfl
  let E:En:=[some (.tup xs)]
  have k0:=not_ok (x:=true) (t_ok (isi_b (m:=mv 0) (env:=E) ht rfl hs))
  have k1:cB (mBin opGt (mOp opLen (pCons (mv 0) pNil)) (mc (.int 8))) E s=.ok (!decide (xs.length<=8)) s:=by
   refine b_ok (bin_ok (op1_ok rfl lenT) rfl ?_)
   show R.ok (AV.bl (decide ((xs.length:Int) > 8))) s=_
   congr 2
   rw[Bool.eq_iff_iff];simp;omega
  have k2:gOp qAll (lComp [("_law_row_here",none)] (srcV' (mv 0)) (gN 0) cYes (gcE (mCall 1 f__law_is_row06 (pCons (mv 0) pNil)))) E s=.ok (.bl (xs.all isRo)) s:=
   all_map (rest:=[]) (gs:=[]) isRo rfl hl (gOk_nil s) rfl λ x hx=>by
    obtain⟨z,hz⟩:=lrow_eq (h2 x hx)
    refine gc_ok (z:=z) ?_ rfl
    unfold mCall pCons pNil
    exact hz
  rw[isRws_eq]
  cases f1:decide (xs.length<=8) with
  | false=>rw[f1]at k1;exact fn_rt (if_t (or_f k0 (or_t k1)))
  | true=>
   rw[f1]at k1
   cases f2:xs.all isRo with
   | false=>rw[f2]at k2;exact fn_rt (if_t (or_f k0 (or_f k1 (not_ok (x:=false) (t_ok k2)))))
   | true=>
    rw[f2]at k2
    refine(fn_rt (if_f (or_f k0 (or_f k1 (not_ok (x:=true) (t_ok k2)))) (ret_ok (bin_ok (left_ok rfl hl rfl f2) rfl rfl)))).trans ?_
    show R.ok (AV.bl (decide ((lefts xs:Int) < 4))) s=_
    congr 2
    rw[Bool.eq_iff_iff];simp;omega
def Sm (t:Str)(n:Nat):Prop:=(∀ c∈t.cps.toList,smC c=true)/\t.length<=n
theorem Sm.nm {t:Str}(h:Sm t 8)(k:1<=t.length):isNm (.str t)=true/\Asc t 8:=by
 refine⟨?_,λ c hc=>?_,h.2⟩
 ·show((decide (1<=t.length) && decide (t.length<=8)) && t.cps.toList.all smC)=true
  rw[decide_eq_true k,decide_eq_true h.2,List.all_eq_true.mpr h.1];rfl
 ·have:=h.1 c hc
  unfold smC at this
  simp only[Bool.and_eq_true,decide_eq_true_eq]at this
  omega
theorem abc_sm:∀ c∈("abcdefghijklmnopqrstuvwxyz":Str).cps.toList,smC c=true:=by decide +kernel
theorem letter_ix {j:Int}(h0:0<=j)(h1:j < 26)(s:S):∃ u,opIx (.str "abcdefghijklmnopqrstuvwxyz") (.int j) s=.ok (.str u) s/\Sm u 1/\u.length=1:=by
 obtain⟨i,rfl⟩:∃ i:Nat,j=i:=⟨j.toNat,by omega⟩
 have hi:i < ("abcdefghijklmnopqrstuvwxyz":Str).cps.toList.length:=by
  have:("abcdefghijklmnopqrstuvwxyz":Str).cps.toList.length=26:=abc_len
  omega
 refine⟨⟨#[("abcdefghijklmnopqrstuvwxyz":Str).cps.toList[i]]⟩,?_,⟨λ c hc=>?_,Nat.le_refl _⟩,rfl⟩
 ·show(if ("abcdefghijklmnopqrstuvwxyz":Str).length<=sizeLine then need (atI ("abcdefghijklmnopqrstuvwxyz":Str).cps.toList i) λ c=>R.ok (AV.str ⟨#[c]⟩) s else .bad)=_
  rw[if_pos (abc_asc.small (by decide)),atI_nat (List.getElem?_eq_getElem hi)];rfl
 ·simp at hc
  subst hc
  exact abc_sm _ (by simp)
theorem join_sm {ss:List Str}(h:∀ t∈ss,Sm t 1/\t.length=1):Sm (Txt.join "" ss) ss.length/\(Txt.join "" ss).length=ss.length:=by
 have hl:(Txt.join "" ss).length=ss.length:=by
  show(PySem.Builtin.Str.glued "" ss).length=_
  rw[size_glued]
  have e:("":Str).length=0:=by decide +kernel
  rw[e,Nat.mul_zero,Nat.add_zero]
  induction ss with
  | nil=>rfl
  | cons a r ih=>simp only[List.map_cons,List.sum_cons,(h a (.head _)).2,ih λ t ht=>h t (.tail _ ht),List.length_cons];omega
 refine⟨⟨λ c hc=>?_,Nat.le_of_eq hl⟩,hl⟩
 have hc:c∈(PySem.Builtin.Str.glued "" ss).cps.toList:=hc
 rw[StrLaws.glued_eq_join]at hc
 rcases(PyProof.Rows.mem_join "" c ss).mp hc with⟨t,ht,hc⟩|⟨_,hc⟩
 ·exact(h t ht).1.1 c hc
 ·rw[show("":Str).cps.toList=[] by decide +kernel]at hc
  cases hc
theorem join_fit {ss:List Str}(h:∀ t∈ss,Sm t 1/\t.length=1)(hl:ss.length<=20):PySem.Builtin.Str.tooLong (ss.toArray.foldl (·+·.length+("":Str).length) 0)=false:=by
 have e:("":Str).length=0:=by decide +kernel
 rw[e]
 have:∀ (l:List Str) (m:Nat),(∀ t∈l,Sm t 1/\t.length=1)->l.foldl (λ n t=>n+t.length+0) m=m+l.length:=by
  intro l
  induction l with
  | nil=>intro m _;rfl
  | cons a r ih=>intro m h;simp only[List.foldl_cons,List.length_cons];rw[ih _ λ t ht=>h t (.tail _ ht),(h a (.head _)).2];omega
 rw[show ss.toArray.foldl (λ n (t:Str)=>n+t.length+0) 0=ss.foldl (λ n (t:Str)=>n+t.length+0) 0 by simp,this ss 0 h]
 show decide (0+ss.length > sizeLine)=false
 rw[decide_eq_false]
 have:sizeLine=2 ^ 24:=rfl
 omega
theorem any06_wp {c d n:Nat}{s:S}(D:Dr c d n s)(hn:n<=900001000):(f__law_any_name06 [.ref d] s).wp λ v s'=>∃ t,v=.str t/\Sm t 8/\1<=t.length/\Dr c d (n+9) s'/\Kp c d s s':=by
 unfold f__law_any_name06 b__law_any_name06
 simp only[↓WS,↓WE,↓WV,Lq,len_sz,UU,Nat.reduceSub,↓reduceIte,↓wp_srcR,show ∀ s:S,(Mm.isTy "str" (.str "") s).isSome=true from λ _=>rfl]
 refine(take_wp D (by omega) (by omega) (fit9 (by omega) (by omega))).mono ?_
 rintro _ s1 ⟨r,rfl,r0,r1,D1,K1⟩
 try walk_at "w"
 refine⟨⟨by omega,by omega⟩,szl (by simp[rngA];omega),?_⟩
 refine comp_wp (λ xs acc env st=>∃ (ss:List Str) (x:Option AV),acc=ss.map AV.str/\xs.length+ss.length=(1+r).toNat/\(∀ t∈ss,Sm t 1/\t.length=1)/\env=[x,some (.str "abcdefghijklmnopqrstuvwxyz"),some (.ref d)]/\Dr c d (n+1+ss.length) st/\Kp c d s st) ?_ ?_ ?_ _ _ _ _ ⟨[],none,rfl,by simp[rngA],(λ _ h=>nomatch h),rfl,D1,K1⟩
 ·exact λ _ _ _ st _=>gOk_nil st
 ·rintro acc env st ⟨ss,x,rfl,hl,hs,rfl,D2,K2⟩
  have hl:0+ss.length=(1+r).toNat:=hl
  have l1:lstO (st++[.lst (ss.map AV.str)]) st.length=some (ss.map AV.str):=lst_last _ _
  have ej:opJoin (.str "") [.ref st.length] (st++[.lst (ss.map AV.str)])=.ok (.str (Txt.join "" ss)) (st++[.lst (ss.map AV.str)]):=by
   show(need (lstO _ st.length) λ xs=>need (txts xs) λ qs=>if PySem.Builtin.Str.tooLong (qs.toArray.foldl (·+·.length+("":Str).length) 0)=false then R.ok (AV.str (Txt.join "" qs)) (st++[.lst (ss.map AV.str)]) else .bad)=_
   rw[l1,need_some,txts_map,need_some,if_pos (join_fit hs (by omega))]
  try walk_at "w"
  rw[wpe ej]
  obtain⟨h1,h2⟩:=join_sm hs
  have D3:=D2.app (e:=[.lst (ss.map AV.str)]) (D2.cl.add (by simp[AO.low,low_strs]))
  obtain⟨D4,K4,al⟩:=(K2.gk.trans (Gk.app c d st _)).cut D D3
  exact⟨⟨al,by simp[AV.low]⟩,_,rfl,⟨h1.1,by omega⟩,by omega,D4.mono (by omega),K4⟩
 ·rintro v r' acc env st ⟨ss,x,rfl,hl,hs,rfl,D2,K2⟩
  have hl:r'.length+1+ss.length=(1+r).toNat:=hl
  try walk_at "w"
  refine(take_wp D2 (by omega) (by omega) (fit9 (by omega) (by omega))).mono ?_
  rintro _ s2 ⟨j,rfl,j0,j1,D3,K3⟩
  obtain⟨u,eu,hu,lu⟩:=letter_ix j0 j1 s2
  rw[wpe eu]
  refine⟨ss++[u],_,by simp,by simp;omega,λ t ht=>?_,rfl,D3.mono (by simp;omega),K2.trans K3⟩
  rcases List.mem_append.mp ht with h|h
  ·exact hs t h
  ·rw[List.mem_singleton.mp h];exact⟨hu,lu⟩
theorem app06 {i:Nat}{xs:List AV}{v:AV}{st:S}(h:lstO st i=some xs)(l:xs.length<=9000):opAppend (.ref i) [v] st=.ok .non (st.set i (.lst (xs++[v]))):=by
 unfold opAppend
 simp only[h,need_some]
 exact if_pos (by have:sizeLine=2 ^ 24:=rfl;omega)
def NmS (p:Str):Prop:=isNm (.str p)=true/\Asc p 8
theorem names06_wp {c d n:Nat}{s:S}(D:Dr c d n s)(hn:n<=900000000){k:Int}(k0:0<=k)(k1:k<=5):(f__law_names06 [.ref d,.int k] s).wp λ v s'=>∃ (j:Nat) (zs:List Str),v=.ref j/\s.length<=j/\lstO s' j=some (zs.map AV.str)/\(zs.length:Int)=k/\(∀ z∈zs,NmS z)/\Dr c d (n+60) s'/\Gk c d s s':=by
 have lc:=D.ltc
 have ld:=D.ltd
 unfold f__law_names06 b__law_names06
 refine fn2w' ?_
 refine seq_step λ K hK=>?_
 try simp only[↓WS,↓WE,↓WV,Lq,len_sz,UU,Nat.reduceSub,↓reduceIte,↓wpe (split24 _),show ∀ s:S,(Mm.isTy "str" (.str "b aa zebra c quartzes ab m knows d mm likes z ba abcdefgh y zz e x f g hh jj kk pave") s).isSome=true from λ _=>rfl]
 rw[hK]
 clear hK K
 have D1:=D.app (e:=[.lst (nm24.map AV.str)]) (D.cl.add (by simp[AO.low,low_strs]))
 have G1:=Gk.app c d s [.lst (nm24.map AV.str)]
 have l1:lstO (s++[.lst (nm24.map AV.str)]) s.length=some (nm24.map AV.str):=lst_last _ _
 have n1:(s++[AO.lst (nm24.map AV.str)]).length=s.length+1:=by simp
 revert D1 G1 l1 n1
 generalize s++[.lst (nm24.map AV.str)]=s1
 intro D1 G1 l1 n1
 refine seq_step λ K hK=>?_
 try walk_at "w"
 rw[hK]
 clear hK K
 have D2:=D1.app (e:=[.lst []]) (D1.cl.add (by simp[AO.low,lowL]))
 have G2:=G1.trans (Gk.app c d s1 [.lst []])
 have l2:lstO (s1++[.lst []]) s.length=some (nm24.map AV.str):=lst_old l1
 have m2:lstO (s1++[.lst []]) (s.length+1)=some (([]:List Str).map AV.str):=by rw[<-n1];exact lst_last _ _
 rw[n1]
 revert D2 G2 l2 m2
 generalize s1++[.lst []]=s2
 intro D2 G2 l2 m2
 refine seq_step λ K hK=>?_
 rw[WS.2.2.2.2.2.2.2.2.1,wp_srcR]
 try walk_at "w"
 refine⟨⟨by omega,by omega⟩,?_⟩
 refine for_wp (λ l env st=>∃ (x4 x5 x6:Option AV) (ys zs:List Str),(l.length:Int)+zs.length=k/\ys.length+zs.length=24/\env=[some (.ref d),some (.int k),some (.ref s.length),some (.ref (s.length+1)),x4,x5,x6]/\lstO st s.length=some (ys.map AV.str)/\lstO st (s.length+1)=some (zs.map AV.str)/\(∀ p∈ys,NmS p)/\(∀ p∈zs,NmS p)/\Dr c d (n+11 * zs.length) st/\Gk c d s st) ?_ ?_ ?_ _ _ _ ⟨none,none,none,nm24,[],by simp[rngA];omega,by rw[nm24_len];rfl,rfl,l2,m2,λ p hp=>⟨(nm24_nm p hp).1,nm24_asc hp⟩,(λ _ h=>nomatch h),D2,G2⟩
 ·exact λ _ _ st _=>gOk_nil st
 case refine_3=>
  rintro v r env st ⟨x4,x5,x6,ys,zs,hl,h24,rfl,ly,lz,hy,hz,Dz,Gz⟩
  have hl:((r.length+1:Nat):Int)+zs.length=k:=hl
  rw[WS.2.2.2.2.2.2.2.2.2.2.1]
  refine seq_step λ K hK=>?_
  try simp only[↓WS,↓WE,↓WV,Lq,len_sz,UU,Nat.reduceSub,↓reduceIte,isL_at ly,↓wpe (len_at ly),List.length_map]
  refine(take_wp Dz (by omega) (by omega) (fit9 (by omega) (by omega))).mono ?_
  rintro _ s3 ⟨j,rfl,j0,j1,D3,K3⟩
  have l4:=K3.gk.lst (n:=0) (by omega) (by omega) ly
  have z4:=K3.gk.lst (n:=0) (by omega) (by omega) lz
  obtain⟨m,rfl⟩:∃ m:Nat,j=m:=⟨j.toNat,by omega⟩
  have hm:m < ys.length:=by omega
  have ep:opPop (.ref s.length) [.int m] s3=.ok (.str ys[m]) (s3.set s.length (.lst ((ys.eraseIdx m).map AV.str))):=by
   show(need (lstO s3 s.length) λ xs=>if 0<=(m:Int)/\(m:Int) < xs.length then need xs[(m:Int).toNat]? λ y=>R.ok y (s3.set s.length (.lst (xs.eraseIdx (m:Int).toNat))) else .bad)=_
   rw[l4,need_some,if_pos ⟨by omega,by rw[List.length_map];omega⟩]
   show(need (ys.map AV.str)[m]? λ y=>R.ok y (s3.set s.length (.lst ((ys.map AV.str).eraseIdx m))))=_
   rw[List.getElem?_map,List.getElem?_eq_getElem hm]
   show R.ok (AV.str ys[m]) _=_
   rw[er_map]
  rw[wpe ep]
  have D4:=D3.set (i:=s.length) (o:=.lst ((ys.eraseIdx m).map AV.str)) (by omega) (by omega) (low_strs _ _)
  have G4:=(Gz.trans K3.gk).set (i:=s.length) (o:=.lst ((ys.eraseIdx m).map AV.str)) (Nat.le_refl _)
  have l5:=lst_set (ys:=(ys.eraseIdx m).map AV.str) l4
  have z5:lstO (s3.set s.length (.lst ((ys.eraseIdx m).map AV.str))) (s.length+1)=some (zs.map AV.str):=by
   unfold lstO at z4 ⊢
   rw[List.getElem?_set_ne (by omega)];exact z4
  revert D4 G4 l5 z5
  generalize s3.set s.length (.lst ((ys.eraseIdx m).map AV.str))=s4
  intro D4 G4 l5 z5
  try walk_at "w"
  refine(any06_wp D4 (by omega)).mono ?_
  rintro _ s5 ⟨t,rfl,ht,ht1,D5,K5⟩
  rw[hK]
  clear hK K
  have l6:=K5.gk.lst (n:=0) (by omega) (by omega) l5
  have z6:=K5.gk.lst (n:=0) (by omega) (by omega) z5
  have G5:=G4.trans K5.gk
  have l24:(ys.eraseIdx m).length+(zs.length+1)=24:=by rw[List.length_eraseIdx_of_lt hm];omega
  have hy':∀ p∈ys.eraseIdx m,NmS p:=λ p hp=>hy p (List.mem_of_mem_eraseIdx hp)
  have hm':NmS ys[m]:=hy _ (List.getElem_mem hm)
  have ht':NmS t:=ht.nm ht1
  clear D D1 D2 D3 D4 K3 K5 Dz l1 l2 l4 l5 z4 z5 ly lz m2 G1 G2 Gz G4
  show(sExpr _ [some (.ref d),some (.int k),some (.ref s.length),some (.ref (s.length+1)),some v,some (.str ys[m]),some (.str t)] s5).wp _ _
  rw[WS.2.2.2.2.1,WE.2.2.2.2.2.2.2.2.2.2.2.2.2.2.2.2.2.2.2.2.2.2.1]
  try simp only[↓WS,↓WE,↓WV,Lq,len_sz,UU,Nat.reduceSub,↓reduceIte,isL_at z6]
  refine(take_wp D5 (by omega) (by omega) (fit9 (by omega) (by omega))).mono ?_
  rintro _ s6 ⟨q,rfl,q0,q1,D6,K6⟩
  have l7:=K6.gk.lst (n:=0) (by omega) (by omega) l6
  have z7:=K6.gk.lst (n:=0) (by omega) (by omega) z6
  have G6:=G5.trans K6.gk
  have fin:∀ (yy:Str) (u:Str) (s7:S),NmS u->lstO s7 s.length=some ((ys.eraseIdx m).map AV.str)->lstO s7 (s.length+1)=some (zs.map AV.str)->Dr c d (n+11 * zs.length+11) s7->Gk c d s s7->(opAppend (.ref (s.length+1)) [.str u] s7).wp λ _ s1=>∃ (x4 x5 x6:Option AV) (ys zs:List Str),(r.length:Int)+zs.length=k/\ys.length+zs.length=24/\[some (AV.ref d),some (AV.int k),some (.ref s.length),some (.ref (s.length+1)),some v,some (.str yy),some (.str t)]=[some (.ref d),some (.int k),some (.ref s.length),some (.ref (s.length+1)),x4,x5,x6]/\lstO s1 s.length=some (ys.map AV.str)/\lstO s1 (s.length+1)=some (zs.map AV.str)/\(∀ p∈ys,NmS p)/\(∀ p∈zs,NmS p)/\Dr c d (n+11 * zs.length) s1/\Gk c d s s1:=by
   intro yy u s7 hu a1 a2 D7 G7
   rw[wpe (app06 a2 (by rw[List.length_map];omega))]
   refine⟨_,_,_,ys.eraseIdx m,zs++[u],by simp;omega,by simp;omega,rfl,?_,?_,hy',λ p hp=>?_,?_,G7.set (by omega)⟩
   ·unfold lstO at a1 ⊢
    rw[List.getElem?_set_ne (by omega)];exact a1
   ·rw[lst_set a2];simp
   ·rcases List.mem_append.mp hp with h|h
    ·exact hz p h
    ·rw[List.mem_singleton.mp h];exact hu
   ·have:=(D7.mono (m:=n+11 * (zs.length+1)) (by omega)).set (i:=s.length+1) (o:=.lst ((zs++[u]).map AV.str)) (by omega) (by omega) (low_strs _ _)
    simpa using this
  rw[wpe (show opEq (.int q) (.int 0) s6=.ok (.bl (decide (q=0))) s6 from rfl)]
  dsimp only
  split
  ·have ea:opAdd (.ref (s.length+1)) (.ref s.length) s6=.ok (.ref s6.length) (s6++[.lst (zs.map AV.str++(ys.eraseIdx m).map AV.str)]):=by
    show(need (lstO s6 (s.length+1)) λ xs=>need (lstO s6 s.length) λ ys=>if xs.length+ys.length<=sizeLine then R.ok (AV.ref s6.length) (s6++[.lst (xs++ys)]) else .bad)=_
    rw[z7,need_some,l7,need_some,if_pos (szl (by rw[List.length_map,List.length_map];omega))]
   have en:opNin (.str t) (.ref s6.length) (s6++[.lst (zs.map AV.str++(ys.eraseIdx m).map AV.str)])=.ok (.bl (!inA (.str t) (zs.map AV.str++(ys.eraseIdx m).map AV.str))) (s6++[.lst (zs.map AV.str++(ys.eraseIdx m).map AV.str)]):=by
    show(need (lstO _ s6.length) λ xs=>if flatA (.str t)=true/\xs.all flatA=true then R.ok (AV.bl (!inA (.str t) xs)) _ else .bad)=_
    rw[lst_last,need_some,if_pos ⟨rfl,by rw[<-List.map_append];exact flat_strs _⟩]
   have D7:=D6.app (e:=[.lst (zs.map AV.str++(ys.eraseIdx m).map AV.str)]) (D6.cl.add (by simp only[List.all_cons,List.all_nil,Bool.and_true,AO.low];rw[<-List.map_append];exact low_strs _ _))
   rw[wpe ea,wpe en]
   dsimp only
   split
   ·exact fin _ t _ ht' (lst_old l7) (lst_old z7) (D7.mono (by omega)) (G6.trans (Gk.app c d s6 _))
   ·exact fin _ _ _ hm' (lst_old l7) (lst_old z7) (D7.mono (by omega)) (G6.trans (Gk.app c d s6 _))
  ·exact fin _ _ _ hm' l7 z7 (D6.mono (by omega)) G6
 rintro env st ⟨x4,x5,x6,ys,zs,hl,_,rfl,ly,lz,hy,hz,Dz,Gz⟩
 rw[hK]
 clear hK K
 try walk_at "w"
 exact⟨_,zs,rfl,by omega,lz,by simpa using hl,hz,Dz.mono (by have:((0:Nat):Int)+zs.length=k:=hl;omega),Gz⟩
def Pq (q:Rat):Prop:=∃ a b,1<=a/\a<=b/\b<=60/\q=Rat.divInt a b
def R6:Rw->Prop
 | .of n q=>NmS n/\Pq q
 | .steps n us z=>NmS n/\1<=us.length/\us.length<=3/\upOk 1 (us.map λ p=>.int p.1)=true/\(∀ p∈us,Pq p.2/\1<=p.1/\p.1<=100)/\Pq z
 | .left n q=>NmS n/\Pq q
 | .len n k=>NmS n/\1<=k/\k<=1000
theorem snoc6 {rs:List Rw}{q:Rw}(h:∀ r∈rs,R6 r)(k:R6 q):∀ r∈rs++[q],R6 r:=λ r hr=>by
 rcases List.mem_append.mp hr with h'|h'
 ·exact h r h'
 ·rw[List.mem_singleton.mp h'];exact k
theorem up_snoc:∀ (us:List AV)(l m:Int){x:Int},upOk l us=true->(∀ u∈us,nOf u<=m)->l<=m+1->m+1<=x->x<=1000000->upOk l (us++[.int x])=true
 | [],l,m,x,_,_,h1,h2,h3=>by
  show((decide (l<=x) && decide (x<=1000000)) && true)=true
  rw[decide_eq_true (show l<=x by omega),decide_eq_true h3];rfl
 | u :: r,l,m,x,h,hu,h1,h2,h3=>by
  have h:(isFrom l 1000000 u && upOk (nOf u+1) r)=true:=h
  rw[Bool.and_eq_true_iff]at h
  show(isFrom l 1000000 u && upOk (nOf u+1) (r++[.int x]))=true
  rw[h.1,up_snoc r (nOf u+1) m h.2 (λ v hv=>hu v (.tail _ hv)) (by have:=hu u (.head _);omega) h2 h3];rfl
theorem part06_wp {c d n:Nat}{s:S}(D:Dr c d n s)(hn:n<=900001000):(f__law_part [.ref d] s).wp λ v s'=>∃ q,v=fq q/\Pq q/\Dr c d (n+3) s'/\Kp c d s s':=by
 unfold f__law_part b__law_part
 walk_at "w"
 refine(take_wp D (by omega) (by omega) (fit9 (by omega) (by omega))).mono ?_
 rintro _ s1 ⟨r,rfl,h0,h1,D1,K1⟩
 walk_at "w"
 have D1':=D1.app (e:=[.lst [.int 2,.int 3,.int 4,.int 5,.int 10,.int (1+r)]]) (D1.cl.add (by simp[AO.low,lowL,AV.low]))
 refine(take_wp D1' (by omega) (by omega) (fit9 (by omega) (by omega))).mono ?_
 rintro _ s2 ⟨j,rfl,j0,j1,D2,K2⟩
 obtain⟨v,hv,ev⟩:=ix_at (s:=s2) (i:=s1.length) (j:=j) (K2.gk.lst (n:=0) (by have:=D1.ltc;omega) (by have:=D1.ltd;omega) (lst_new s1 _)) j0 j1
 obtain⟨b,rfl,b0,b1⟩:∃ b,v=.int b/\1<=b/\b<=60:=by
  simp only[List.mem_cons,List.not_mem_nil,or_false]at hv
  rcases hv with rfl|rfl|rfl|rfl|rfl|rfl<;>exact⟨_,rfl,by omega,by omega⟩
 have G:=(K1.gk.trans (Gk.app c d s1 _)).trans K2.gk
 obtain⟨D3,K3,al⟩:=G.cut D D2
 simp only[↓WS,↓WE,↓WV,Lq,len_sz,UU,Nat.reduceSub,↓reduceIte,↓wpe ev,al,show AV.low s.length (.int b)=true by simp[AV.low]]
 refine(take_wp D3 (by omega) (by omega) (fit9 (by omega) (by omega))).mono ?_
 rintro _ s3 ⟨i,rfl,i0,i1,D4,K4⟩
 simp only[↓WS,↓WE,↓WV,Lq,len_sz,UU,Nat.reduceSub,↓reduceIte,↓wpe (lowest60 (a:=1+i) (b:=b) _ (by omega) (by omega) (by omega) (by omega))]
 exact⟨_,rfl,⟨1+i,b,by omega,by omega,by omega,rfl⟩,D4,K3.trans K4⟩
theorem row06_wp {c d n:Nat}{s:S}(D:Dr c d n s)(hn:n<=900000000){nm:Str}(hnm:NmS nm){room:Int}(r0:0<=room)(r1:room<=60):(f__law_row06 [.ref d,.str nm,.int room] s).wp λ v s'=>∃ r w,v=.tup [rv r,.int w]/\R6 r/\0<=w/\w<=room/\Dr c d (n+20) s'/\Gk c d s s':=by
 unfold f__law_row06 b__law_row06
 walk_at "w"
 refine(take_wp D (by omega) (by omega) (fit9 (by omega) (by omega))).mono ?_
 rintro _ s1 ⟨k,rfl,k0,k1,D1,K1⟩
 walk_at "w"
 split
 ·-- length
  rename_i c1
  have D1':=D1.app (e:=[.lst [.int 5,.int 1000]]) (D1.cl.add (by simp[AO.low,lowL,AV.low]))
  refine(take_wp D1' (by omega) (by omega) (fit9 (by omega) (by omega))).mono ?_
  rintro _ s2 ⟨j,rfl,j0,j1,D2,K2⟩
  obtain⟨v,hv,ev⟩:=ix_at (s:=s2) (i:=s1.length) (j:=j) (K2.gk.lst (n:=0) (by have:=D1.ltc;omega) (by have:=D1.ltd;omega) (lst_new s1 _)) j0 j1
  obtain⟨b,rfl,b0,b1⟩:∃ b,v=.int b/\1<=b/\b<=1000:=by
   simp only[List.mem_cons,List.not_mem_nil,or_false]at hv
   rcases hv with rfl|rfl<;>exact⟨_,rfl,by omega,by omega⟩
  obtain⟨D3,K3,al⟩:=((Gk.app c d s1 _).trans K2.gk).cut D1 D2
  simp only[↓WS,↓WE,↓WV,Lq,len_sz,UU,Nat.reduceSub,↓reduceIte,↓wpe ev,al,show AV.low s1.length (.int b)=true by simp[AV.low]]
  refine(take_wp D3 (by omega) (by omega) (fit9 (by omega) (by omega))).mono ?_
  rintro _ s3 ⟨i,rfl,i0,i1,D4,K4⟩
  walk_at "w"
  exact⟨.len nm (1+i),0,rfl,⟨hnm,by omega,by omega⟩,by omega,r0,D4.mono (by omega),K1.gk.trans (K3.gk.trans K4.gk)⟩
 ·split
  ·refine(part06_wp D1 (by omega)).mono ?_
   rintro _ s2 ⟨q,rfl,q0,D2,K2⟩
   exact⟨.left nm q,0,rfl,⟨hnm,q0⟩,by omega,r0,D2.mono (by omega),K1.gk.trans K2.gk⟩
  split
  ·refine(part06_wp D1 (by omega)).mono ?_
   rintro _ s2 ⟨q,rfl,q0,D2,K2⟩
   exact⟨.left nm q,0,rfl,⟨hnm,q0⟩,by omega,r0,D2.mono (by omega),K1.gk.trans K2.gk⟩
  rename_i c1 c2 c3
  have D1':=D1.app (e:=[.lst [.int 12,.int 60]]) (D1.cl.add (by simp[AO.low,lowL,AV.low]))
  refine(take_wp D1' (by omega) (by omega) (fit9 (by omega) (by omega))).mono ?_
  rintro _ s2 ⟨j,rfl,j0,j1,D2,K2⟩
  have hj:j.fdiv 2=j / 2:=Int.fdiv_eq_ediv_of_nonneg _ (by omega)
  obtain⟨v,hv,ev⟩:=ix_at (s:=s2) (i:=s1.length) (j:=j.fdiv 2) (K2.gk.lst (n:=0) (by have:=D1.ltc;omega) (by have:=D1.ltd;omega) (lst_new s1 _)) (by rw[hj];omega) (by rw[hj];show j / 2 < (2:Int);omega)
  obtain⟨b,rfl,b0,b1⟩:∃ b,v=.int b/\1<=b/\b<=60:=by
   simp only[List.mem_cons,List.not_mem_nil,or_false]at hv
   rcases hv with rfl|rfl<;>exact⟨_,rfl,by omega,by omega⟩
  obtain⟨D3,K3,al⟩:=((Gk.app c d s1 _).trans K2.gk).cut D1 D2
  simp only[↓WS,↓WE,↓WV,Lq,len_sz,UU,Nat.reduceSub,↓reduceIte,↓wpe ev,al,show AV.low s1.length (.int b)=true by simp[AV.low]]
  refine⟨⟨by decide,mid_of (n:=7) (fitI (by omega) (by omega)) (by omega)⟩,?_⟩
  obtain⟨m,em,m0,m1⟩:∃ m,(if b < room then b else room)=m/\1<=m/\m<=room:=⟨_,rfl,by split<;>omega,by split<;>omega⟩
  rw[em]
  refine(take_wp D3 (by omega) (by omega) (fit9 (by omega) (by omega))).mono ?_
  rintro _ s3 ⟨i,rfl,i0,i1,D4,K4⟩
  have G4:Gk c d s s3:=K1.gk.trans (K3.gk.trans K4.gk)
  walk_at "w"
  split
  ·simp only[↓WS,↓WE,↓WV,Lq,len_sz,UU,Nat.reduceSub,↓reduceIte,↓wpe (lowest60 (a:=1+i) (b:=60) _ (by omega) (by omega) (by omega) (by omega))]
   exact⟨.of nm _,1+i,rfl,⟨hnm,1+i,60,by omega,by omega,by omega,rfl⟩,by omega,by omega,D4.mono (by omega),G4⟩
  ·-- steps
   have D5:=D4.app (e:=[.lst []]) (D4.cl.add (by simp[AO.low,lowL]))
   simp only[↓WS,↓WE,↓WV,Lq,len_sz,UU,Nat.reduceSub,↓reduceIte,↓wp_srcR]
   refine(take_wp D5 (by omega) (by omega) (fit9 (by omega) (by omega))).mono ?_
   rintro _ s4 ⟨j2,rfl,a0,a1,D6,K6⟩
   walk_at "w"
   refine⟨⟨by omega,by omega⟩,?_⟩
   have lc:=D4.ltc
   have ld:=D4.ltd
   have L6:lstO s4 s3.length=some []:=K6.gk.lst (n:=0) (by omega) (by omega) (lst_new s3 _)
   refine for_wp (λ xs env st=>∃ (us:List (Int × Rat)) (up:Int) (x:Option AV) (z:Nat),xs.length+us.length=(1+j2).toNat/\z=us.length/\0<=up/\up<=10 * (z:Int)/\upOk 1 (us.map λ p=>.int p.1)=true/\lstO st s3.length=some (us.map stE)/\(∀ p∈us,Pq p.2/\p.1<=up/\1<=p.1/\p.1<=100)/\env=[some (AV.ref d),some (.str nm),some (.int room),some (.int k),some (.int (1+i)),some (.ref s3.length),some (.int up),x]/\Dr c d (n+5+3 * z) st/\Gk c d s3 st) ?_ ?_ ?_ _ _ _ ⟨[],0,none,0,by simp[rngA],rfl,by omega,by omega,rfl,L6,(λ _ h=>nomatch h),rfl,D6.mono (by omega),(Gk.app c d s3 _).trans K6.gk⟩
   ·rintro _ _ st _ p hp;cases hp
   ·rintro env st ⟨us,up,x,z,z0,rfl,u0,u1,uo,l1,l2,rfl,D7,G7⟩
    have z0:0+us.length=(1+j2).toNat:=z0
    simp only[↓WS,↓WE,↓WV,Lq,len_sz,UU,Nat.reduceSub,↓reduceIte,isL_at l1]
    refine(take_wp D7 (by omega) (by omega) (fit9 (by omega) (by omega))).mono ?_
    rintro _ s5 ⟨j3,rfl,b0,b1,D8,K8⟩
    have l5:=K8.gk.lst (n:=0) (by omega) (by omega) l1
    have l6:=lst_set (ys:=us.map stE++[AV.tup [.non,fq (Rat.divInt (1+j3) 60)]]) l5
    simp only[↓WS,↓WE,↓WV,Lq,len_sz,UU,Nat.reduceSub,↓reduceIte,↓wpe (lowest60 (a:=1+j3) (b:=60) _ (by omega) (by omega) (by omega) (by omega)),↓wpe (append_at l5 (small1000 (by simp;omega))),items,l6,qTuple]
    refine⟨.steps nm us (Rat.divInt (1+j3) 60),1+i,rfl,⟨hnm,by omega,by omega,uo,λ p hp=>⟨(l2 p hp).1,(l2 p hp).2.2⟩,1+j3,60,by omega,by omega,by omega,rfl⟩,by omega,by omega,?_,G4.trans ((G7.trans K8.gk).set (Nat.le_refl _))⟩
    exact(D8.mono (by omega)).set (by omega) (by omega) (by simp[AO.low,lowL_app,low_st,lowL,AV.low,low_fq])
   ·rintro v r env st ⟨us,up,x,z,z0,rfl,u0,u1,uo,l1,l2,rfl,D7,G7⟩
    have z0:r.length+1+us.length=(1+j2).toNat:=z0
    walk_at "w"
    refine(pick_wp (m:=2) (xs:=[.int 3,.int 9]) D7 (by omega) (by rfl) (by omega) (by omega) (P:=λ b=>1<=b/\b<=9) (by
     intro v hv
     simp only[List.mem_cons,List.not_mem_nil,or_false]at hv
     rcases hv with rfl|rfl<;>exact⟨_,rfl,by omega,by omega⟩)).mono ?_
    rintro _ s5 ⟨b,ev,⟨b0,b1⟩,al,D8,K8⟩
    rw[wpe ev]
    refine⟨⟨al,by simp[AV.low]⟩,?_⟩
    refine(take_wp D8 (by omega) (by omega) (fit9 (by omega) (by omega))).mono ?_
    rintro _ s6 ⟨j3,rfl,b2,b3,D9,K9⟩
    have l6:=(K8.trans K9).gk.lst (n:=0) (by omega) (by omega) l1
    simp only[↓WS,↓WE,↓WV,Lq,len_sz,UU,Nat.reduceSub,↓reduceIte,isL_at l6]
    refine(take_wp D9 (by omega) (by omega) (fit9 (by omega) (by omega))).mono ?_
    rintro _ s7 ⟨j4,rfl,b4,b5,D10,K10⟩
    have l7:=K10.gk.lst (n:=0) (by omega) (by omega) l6
    simp only[↓WS,↓WE,↓WV,Lq,len_sz,UU,Nat.reduceSub,↓reduceIte,↓wpe (lowest60 (a:=1+j4) (b:=60) _ (by omega) (by omega) (by omega) (by omega)),↓wpe (append_at l7 (small1000 (by simp;omega)))]
    refine⟨us++[(up+1+j3,Rat.divInt (1+j4) 60)],up+1+j3,_,us.length+1,by simp;omega,by simp,by omega,by omega,?_,?_,?_,rfl,?_,(((G7.trans K8.gk).trans K9.gk).trans K10.gk).set (Nat.le_refl _)⟩
    ·rw[List.map_append]
     refine up_snoc _ 1 up uo (λ u hu=>?_) (by omega) (by omega) (by omega)
     obtain⟨p,hp,rfl⟩:=List.mem_map.mp hu
     exact(l2 p hp).2.1
    ·rw[lst_set l7,List.map_append];rfl
    ·intro p hp
     rcases List.mem_append.mp hp with hp|hp
     ·have:=l2 p hp
      exact⟨this.1,by omega,by omega,by omega⟩
     ·simp only[List.mem_singleton]at hp
      subst hp
      exact⟨⟨1+j4,60,by omega,by omega,by omega,rfl⟩,by dsimp only;omega,by dsimp only;omega,by dsimp only;omega⟩
    ·exact(D10.mono (by omega)).set (by omega) (by omega) (by simp[AO.low,lowL_app,low_st,lowL,AV.low,low_fq])
theorem rows06_wp {c d n J:Nat}{s:S}(D:Dr c d n s)(hn:n<=800000000){zs:List Str}(hJ:lstO s J=some (zs.map AV.str)) (hz:zs≠[])(hzn:∀ z∈zs,NmS z)(jc:J≠c)(jd:J≠d)(hz2:zs.length<=99){k:Int}(k0:0<=k)(k1:k<=8) :
  (f__law_rows06 [.ref d,.ref J,.int k] s).wp λ v s'=>∃ rs,v=.tup (rs.map rv)/\(∀ r∈rs,R6 r)/\rs.length<=8/\nL rs<=3/\Dr c d (n+200) s'/\Gk c d s s':=by
 have lc:=D.ltc
 have ld:=D.ltd
 have hJl:J < s.length:=(List.getElem?_eq_some_iff.mp (lstO_inv hJ)).1
 have hzl:0 < zs.length:=List.length_pos_iff.mpr hz
 unfold f__law_rows06 b__law_rows06
 have eN:opNe (.ref J) (.ref (s++[AO.lst []]).length) ((s++[AO.lst []])++[.lst []])=.ok (.bl true) ((s++[AO.lst []])++[.lst []]):=ne_nil (lstO_app (lstO_app hJ)) (lst_new _ _) (flat_strs zs) (by simpa using hz)
 have D0:=D.app (e:=[.lst []]) (D.cl.add (by simp[AO.low,lowL]))
 simp only[↓WS,↓WE,↓WV,Lq,len_sz,UU,Nat.reduceSub,↓reduceIte,↓wp_srcR,↓wpe eN,List.take_left,show ∀ b,AV.low b (.bl true)=true from λ _=>by simp[AV.low],Int.mul_one]
 refine⟨⟨big_of (n:=7) (fitI k0 (by omega)) (by omega),big_of (n:=7) (fitI (by omega) (by omega)) (by omega)⟩,⟨by omega,by omega⟩,?_⟩
 refine for_wp (λ xs env st=>∃ (rs:List Rw) (room:Int) (x y w:Option AV) (z:Nat),(xs.length:Int)+z=k/\rs.length<=z/\nL rs<=3/\(∀ r∈rs,R6 r)/\0<=room/\room<=60/\lstO st s.length=some (rs.map rv)/\lstO st J=some (zs.map AV.str)/\env=[some (AV.ref d),some (.ref J),some (.int k),some (.int room),some (.ref s.length),x,y,w]/\Dr c d (n+22 * z) st/\Gk c d s st) ?_ ?_ ?_ _ _ _ ⟨[],60,none,none,none,0,by simp[rngA];omega,Nat.le_refl _,by simp[nL],(λ _ h=>nomatch h),by omega,by omega,lst_new _ _,lstO_app hJ,rfl,D0,Gk.app c d s _⟩
 ·rintro _ _ st _ p hp;cases hp
 ·rintro env st ⟨rs,room,x,y,w,z,z0,z1,z2,z3,z4,z5,l1,l2,rfl,D1,G1⟩
  have z0:((0:Nat):Int)+z=k:=z0
  simp only[↓WS,↓WE,↓WV,Lq,len_sz,UU,Nat.reduceSub,↓reduceIte,items,l1,qTuple]
  exact⟨rs,rfl,z3,by omega,z2,D1.mono (by omega),G1⟩
 ·rintro v r env st ⟨rs,room,x,y,w,z,z0,z1,z2,z3,z4,z5,l1,l2,rfl,D1,G1⟩
  have z0:((r.length+1:Nat):Int)+z=k:=z0
  simp only[↓WS,↓WE,↓WV,Lq,len_sz,UU,Nat.reduceSub,↓reduceIte,↓wpe (len_at l2),List.length_map]
  refine(take_wp D1 (by omega) (by omega) (fit9 (by omega) (by omega))).mono ?_
  rintro _ s1 ⟨j,rfl,j0,j1,D2,K2⟩
  obtain⟨v',hv,ev⟩:=ix_at (K2.gk.lst (n:=0) jc jd l2) j0 (by rw[List.length_map];exact j1)
  obtain⟨nm,hnm,rfl⟩:=List.mem_map.mp hv
  simp only[↓WS,↓WE,↓WV,Lq,len_sz,UU,Nat.reduceSub,↓reduceIte,↓wpe ev]
  refine(row06_wp D2 (by omega) (hzn nm hnm) z4 z5).mono ?_
  rintro _ s2 ⟨q,w',rfl,h1,h2,h3,D3,G3⟩
  have l3:=G3.lst (n:=0) (by omega) (by omega) (K2.gk.lst (n:=0) (by omega) (by omega) l1)
  have l4:=G3.lst (n:=0) jc jd (K2.gk.lst (n:=0) jc jd l2)
  have G4:=(G1.trans K2.gk).trans G3
  have app:∀ env',(∃ (x y w:Option AV),env'=[some (AV.ref d),some (.ref J),some (.int k),some (.int (room - w')),some (.ref s.length),x,y,w])->nL (rs++[q])<=3->(opAppend (.ref s.length) [rv q] s2).wp (λ _ s1=>∃ (rs:List Rw) (room:Int) (x y w:Option AV) (z:Nat),(r.length:Int)+z=k/\rs.length<=z/\nL rs<=3/\(∀ r∈rs,R6 r)/\0<=room/\room<=60/\lstO s1 s.length=some (rs.map rv)/\lstO s1 J=some (zs.map AV.str)/\env'=[some (AV.ref d),some (.ref J),some (.int k),some (.int room),some (.ref s.length),x,y,w]/\Dr c d (n+22 * z) s1/\Gk c d s s1):=by
   rintro env' ⟨x',y',w2,rfl⟩ hnl
   rw[wpe (append_at l3 (small1000 (by simp;omega)))]
   refine⟨rs++[q],room - w',x',y',w2,z+1,by omega,by simp;omega,hnl,snoc6 z3 h1,by omega,by omega,?_,?_,rfl,?_,G4.set (Nat.le_refl _)⟩
   ·rw[lst_set l3,List.map_append];rfl
   ·rw[show lstO (s2.set s.length _) J=lstO s2 J by unfold lstO;rw[List.getElem?_set_ne (by omega)]];exact l4
   ·exact(D3.mono (by omega)).set (by omega) (by omega) (by simp[AO.low,lowL_app,low_rvs,lowL,low_rv])
  simp only[↓WS,↓WE,↓WV,Lq,len_sz,UU,Nat.reduceSub,↓reduceIte,↓wpe (rv_kd q _)]
  cases q with
  | of nm' q'=>
   rw[show kdE (.of nm' q')=.str "of" from rfl]
   simp only[↓WS,↓WE,↓WV,Lq,len_sz,UU,Nat.reduceSub,↓reduceIte,SD,isL_at l3]
   exact app _ ⟨_,_,_,rfl⟩ (by rw[nL_app];simp[nL];omega)
  | steps nm' us q'=>
   rw[show kdE (.steps nm' us q')=.str "steps" from rfl]
   simp only[↓WS,↓WE,↓WV,Lq,len_sz,UU,Nat.reduceSub,↓reduceIte,SD,isL_at l3]
   exact app _ ⟨_,_,_,rfl⟩ (by rw[nL_app];simp[nL];omega)
  | len nm' q'=>
   rw[show kdE (.len nm' q')=.str "length" from rfl]
   simp only[↓WS,↓WE,↓WV,Lq,len_sz,UU,Nat.reduceSub,↓reduceIte,SD,isL_at l3]
   exact app _ ⟨_,_,_,rfl⟩ (by rw[nL_app];simp[nL];omega)
  | left nm' q'=>
   rw[show kdE (.left nm' q')=.str "left" from rfl]
   have w3:walkO (.ref s.length) s2=_:=(Wlk.ref l3).src
   simp only[↓WS,↓WE,↓WV,Lq,len_sz,UU,Nat.reduceSub,↓reduceIte,eq_self,isL_at l3,↓wpe w3,↓kd_comp rs s2 _ l3,isL_new,↓wpe (count_new _ _),List.take_left,show ∀ b i,AV.low b (.int i)=true from λ _ _=>by simp[AV.low]]
   refine⟨szl (by rw[List.length_map];omega),?_⟩
   split
   ·rename_i cc
    exact app _ ⟨_,_,_,rfl⟩ (by rw[nL_app];simp[nL];omega)
   ·refine⟨rs,room - w',_,_,_,z+1,by omega,by omega,z2,z3,by omega,by omega,l3,l4,rfl,D3.mono (by omega),G4⟩
def gL:AV->Prop
 | .non=>True
 | .bl _=>True
 | .int i=>Fit 80 i
 | .str t=>Asc t 20
 | _=>False
def wd:Nat->Nat
 | 0=>3
 | 1=>3
 | 2=>5
 | 3=>5
 | 4=>5
 | 5=>5
 | _=>12
theorem wd_le:∀ n,wd n<=wd (n+1)
 | 0=>by decide
 | 1=>by decide
 | 2=>by decide
 | 3=>by decide
 | 4=>by decide
 | 5=>by decide
 | n+6=>by show 12<=12;omega
theorem wd_12:∀ n,wd n<=12
 | 0=>by decide
 | 1=>by decide
 | 2=>by decide
 | 3=>by decide
 | 4=>by decide
 | 5=>by decide
 | n+6=>by show 12<=12;omega
def Bw:Nat->Nat
 | 0=>210
 | n+1=>wd n * (Bw n+2)+3
theorem Bw_le:∀ n,Bw n<=Bw (n+1)
 | n=>by
  show Bw n<=wd n * (Bw n+2)+3
  have h:1<=wd n:=by
   have:∀ n,1<=wd n:=λ n=>by
    match n with
    | 0=>decide
    | 1=>decide
    | 2=>decide
    | 3=>decide
    | 4=>decide
    | 5=>decide
    | n+6=>show 1<=12;omega
   exact this n
  have:1 * (Bw n+2)<=wd n * (Bw n+2):=Nat.mul_le_mul_right _ h
  omega
def dOf:List (Key × AV):=[(.inr "of",.int 1)]
def G (c d:Nat)(md:Bool)(s:S):Nat->AV->Prop
 | 0,v=>gL v
 | n+1,v=>gL v∨(∃ xs,v=.tup xs/\xs.length<=wd n/\∀ x∈xs,G c d md s n x)∨(md=false/\∃ i xs,v=.ref i/\i≠c/\i≠d/\lstO s i=some xs/\xs.length<=wd n/\∀ x∈xs,G c d md s n x)∨(md=true/\∃ i,v=.ref i/\i≠c/\i≠d/\(s[i]? = some (.dK [])∨s[i]? = some (.dK dOf)))
def P6 (n:Nat)(v:AV):Prop:=∀ c d md s,G c d md s n v
theorem G.succ {c d:Nat}{md:Bool}{s:S}:∀ {n:Nat}{v:AV},G c d md s n v->G c d md s (n+1) v
 | 0,_,h=>.inl h
 | n+1,_,.inl h=>.inl h
 | n+1,_,.inr (.inl ⟨xs,e,l,h⟩)=>.inr (.inl ⟨xs,e,Nat.le_trans l (wd_le n),λ x hx=>(h x hx).succ⟩)
 | n+1,_,.inr (.inr (.inl ⟨hm,i,xs,e,ic,id,li,l,h⟩))=>.inr (.inr (.inl ⟨hm,i,xs,e,ic,id,li,Nat.le_trans l (wd_le n),λ x hx=>(h x hx).succ⟩))
 | n+1,_,.inr (.inr (.inr h))=>.inr (.inr (.inr h))
theorem G.up {c d:Nat}{md:Bool}{s:S}{n m:Nat}{v:AV}(h:G c d md s n v)(k:n<=m):G c d md s m v:=by
 induction k with
 | refl=>exact h
 | step _ ih=>exact ih.succ
theorem P6.up {n m:Nat}{v:AV}(h:P6 n v)(k:n<=m):P6 m v:=λ c d md s=>(h c d md s).up k
theorem G.gk {c d:Nat}{md:Bool}{s s':S}(g:Gk c d s s'):∀ {n:Nat}{v:AV},G c d md s n v->G c d md s' n v
 | 0,_,h=>h
 | n+1,_,.inl h=>.inl h
 | n+1,_,.inr (.inl ⟨xs,e,l,h⟩)=>.inr (.inl ⟨xs,e,l,λ x hx=>(h x hx).gk g⟩)
 | n+1,_,.inr (.inr (.inl ⟨hm,i,xs,e,ic,id,li,l,h⟩))=>.inr (.inr (.inl ⟨hm,i,xs,e,ic,id,g.lst (n:=0) ic id li,l,λ x hx=>(h x hx).gk g⟩))
 | n+1,_,.inr (.inr (.inr ⟨hm,i,e,ic,id,h⟩))=>.inr (.inr (.inr ⟨hm,i,e,ic,id,by
  have hi:i < s.length:=by rcases h with h|h<;>exact(List.getElem?_eq_some_iff.mp h).1
  rw[g.get i hi ic id];exact h⟩))
theorem gL_leaf {v:AV}(h:gL v)(s:S):leafOk s v/\∀ xs,v≠.tup xs:=by
 cases v with
 | non=>exact⟨⟨⟨_,rfl⟩,trivial⟩,by simp⟩
 | bl b=>exact⟨⟨⟨_,rfl⟩,trivial⟩,by simp⟩
 | int i=>exact⟨⟨⟨_,rfl⟩,Fit.mono h (by decide)⟩,by simp⟩
 | str t=>exact⟨⟨⟨_,rfl⟩,Asc.all h,Asc.small h (by decide)⟩,by simp⟩
 | _=>exact h.elim
theorem leaf_lst {s:S}{i:Nat}{xs:List AV}(h:lstO s i=some xs):leafOk s (.ref i):=⟨⟨"list",by simp only[tagOf,lstO_inv h]⟩,trivial⟩
theorem leaf_dK {s:S}{i:Nat}{kv:List (Key × AV)}(h:s[i]? = some (.dK kv)):leafOk s (.ref i):=⟨⟨"dict",by simp only[tagOf,h]⟩,trivial⟩
theorem G.okD {c d:Nat}{md:Bool}{s:S}:∀ {n:Nat}{v:AV},G c d md s n v->∀ m,Ro.okD m s v
 | 0,_,h,m=>okD_of_leaf (gL_leaf h s).1 (gL_leaf h s).2 m
 | n+1,_,.inl h,m=>okD_of_leaf (gL_leaf h s).1 (gL_leaf h s).2 m
 | n+1,_,.inr (.inl ⟨xs,e,l,h⟩),m=>by
  subst e
  cases m with
  | zero=>exact⟨⟨_,rfl⟩,trivial⟩
  | succ m=>exact⟨⟨⟨_,rfl⟩,trivial⟩,λ ys e=>by cases e;exact⟨szl (by have:=wd_12 n;omega),λ x hx=>(h x hx).okD m⟩⟩
 | n+1,_,.inr (.inr (.inl ⟨hm,i,xs,e,ic,id,li,l,h⟩)),m=>by subst e;exact okD_of_leaf (leaf_lst li) (by simp) m
 | n+1,_,.inr (.inr (.inr ⟨hm,i,e,ic,id,h⟩)),m=>by
  subst e
  rcases h with h|h
  ·exact okD_of_leaf (leaf_dK h) (by simp) m
  ·exact okD_of_leaf (leaf_dK h) (by simp) m
theorem G.kOk {c d:Nat}{md:Bool}{s:S}{n:Nat}{v:AV}(h:G c d md s n v):Ro.kOk s v:=by
 have hl:gL v->Ro.kOk s v:=λ h=>by cases v<;>first|trivial|exact h.elim
 cases n with
 | zero=>exact hl h
 | succ n=>
  rcases h with h|⟨xs,rfl,_⟩|⟨_,i,xs,rfl,_,_,li,_⟩|⟨_,i,rfl,_,_,h⟩
  ·exact hl h
  ·trivial
  ·exact .inl ⟨xs,lstO_inv li⟩
  ·rcases h with h|h
   ·exact .inr ⟨_,h⟩
   ·exact .inr ⟨_,h⟩
theorem gL_low {v:AV}(h:gL v)(b:Nat):v.low b=true:=by
 cases v with
 | tup xs=>exact h.elim
 | ref i=>exact h.elim
 | sq xs=>exact h.elim
 | _=>simp[AV.low]
theorem G.low {c d:Nat}{md:Bool}{s:S}:∀ {n:Nat}{v:AV},G c d md s n v->v.low s.length=true
 | 0,v,h=>gL_low h _
 | n+1,v,.inl h=>gL_low h _
 | n+1,v,.inr (.inl ⟨xs,e,l,h⟩)=>by subst e;simp only[AV.low];exact lowL_of λ x hx=>(h x hx).low
 | n+1,v,.inr (.inr (.inl ⟨hm,i,xs,e,ic,id,li,l,h⟩))=>by
  subst e
  have:i < s.length:=(List.getElem?_eq_some_iff.mp (lstO_inv li)).1
  simp only[AV.low];exact decide_eq_true this
 | n+1,v,.inr (.inr (.inr ⟨hm,i,e,ic,id,h⟩))=>by
  subst e
  have:i < s.length:=by rcases h with h|h<;>exact(List.getElem?_eq_some_iff.mp h).1
  simp only[AV.low];exact decide_eq_true this
structure Pg (md:Bool)(n B:Nat)(d:PyData):Prop where
 sh:d.showable=true
 nd:if md=true then hasL d=false else d.hasDict=false
 dp:d.depth<=n
 ln:d.shown.length<=B
theorem toStr80 (i:Int)(h:Fit 80 i):(Str.ofString (toString i)).length<=210:=by
 have h1:i.natAbs.log2 < 80:=by
  by_cases h0:i.natAbs=0
  ·rw[h0];decide
  ·exact(Nat.log2_lt h0).mpr h
 have h2:=int_text_length_le (a:=i) (k:=80) (by decide) h1
 rw[ofString_length]
 omega
theorem nd_leaf {md:Bool}{e:PyData}(h1:hasL e=false)(h2:e.hasDict=false):if md=true then hasL e=false else e.hasDict=false:=by split<;>assumption
theorem gL_toP {v:AV}(h:gL v)(md:Bool)(n m:Nat)(s:S):∃ d,toP m s v=some d/\Pg md n (Bw n) d:=by
 have hB:210<=Bw n:=by
  induction n with
  | zero=>exact Nat.le_refl _
  | succ n ih=>exact Nat.le_trans ih (Bw_le n)
 cases v with
 | non=>exact⟨.none,by unfold toP;rfl,by simp[PyData.showable],nd_leaf (by simp[hasL]) (by simp[PyData.hasDict]),by simp[PyData.depth],Nat.le_trans (by show(PyData.shown .none).length<=210;simp only[PyData.shown];decide +kernel) hB⟩
 | bl b=>exact⟨.bool b,by unfold toP;rfl,by simp[PyData.showable],nd_leaf (by simp[hasL]) (by simp[PyData.hasDict]),by simp[PyData.depth],Nat.le_trans (by simp only[PyData.shown];cases b<;>decide +kernel) hB⟩
 | int i=>
  have h:Fit 80 i:=h
  refine⟨.int i,by unfold toP;rfl,?_,nd_leaf (by simp[hasL]) (by simp[PyData.hasDict]),by simp[PyData.depth],Nat.le_trans ?_ hB⟩
  ·simp only[PyData.showable,decide_eq_true_eq]
   by_cases h0:i.natAbs=0
   ·rw[h0];decide
   ·exact Nat.lt_of_lt_of_le ((Nat.log2_lt h0).mpr h) (by decide)
  ·simp only[PyData.shown];exact toStr80 i h
 | str t=>
  have h:Asc t 20:=h
  refine⟨.str t,by unfold toP;rfl,by simp[PyData.showable],nd_leaf (by simp[hasL]) (by simp[PyData.hasDict]),by simp[PyData.depth],Nat.le_trans ?_ hB⟩
  simp only[PyData.shown]
  have:=PySem.StrLaws.reprText_len t λ c hc=>Nat.lt_trans (h.1 c hc) (by decide)
  have:=h.2
  omega
 | _=>exact h.elim
theorem hasLs_no:∀ {l:List PyData},(∀ d∈l,hasL d=false)->hasLs l=false
 | [],_=>by simp[hasLs]
 | d :: r,h=>by simp[hasLs,h d (.head _),hasLs_no λ e he=>h e (.tail _ he)]
theorem hasDs_no:∀ {l:List PyData},(∀ d∈l,d.hasDict=false)->PyData.hasDictAll l=false
 | [],_=>by simp[PyData.hasDictAll]
 | d :: r,h=>by simp[PyData.hasDictAll,h d (.head _),hasDs_no λ e he=>h e (.tail _ he)]
theorem pgall {md:Bool}{n B:Nat}:∀ {l:List PyData},(∀ d∈l,Pg md n B d)->PyData.showableAll l=true/\PyData.depthAll l<=n
 | [],_=>by simp[PyData.showableAll,PyData.depthAll]
 | d :: r,h=>by
  obtain⟨a,c⟩:=pgall (l:=r) λ e he=>h e (.tail _ he)
  have hd:=h d (.head _)
  simp only[PyData.showableAll,PyData.depthAll,a,hd.sh]
  exact⟨rfl,Nat.max_le.mpr ⟨hd.dp,c⟩⟩
theorem pg_tup {md:Bool}{n B w:Nat}{l:List PyData}(hl:l.length<=w)(h:∀ d∈l,Pg md n B d):Pg md (n+1) (w * (B+2)+3) (.tuple l):=by
 obtain⟨a,c⟩:=pgall h
 refine⟨by simpa[PyData.showable]using a,?_,by simp only[PyData.depth];omega,?_⟩
 ·cases md with
  | true=>rw[if_pos rfl];show hasL (.tuple l)=false;unfold hasL;exact hasLs_no λ d hd=>by have:=(h d hd).nd;rwa [if_pos rfl]at this
  | false=>rw[if_neg (by decide)];show PyData.hasDict (.tuple l)=false;unfold PyData.hasDict;exact hasDs_no λ d hd=>by have:=(h d hd).nd;rwa [if_neg (by decide)]at this
 simp only[PyData.shown]
 have:=tup_le (b:=B) (ts:=PyData.shownAll l) λ t ht=>by obtain⟨d,hd,rfl⟩:=shownAll_mem ht;exact(h d hd).ln
 rw[shownAll_len]at this
 have:l.length * (B+2)<=w * (B+2):=Nat.mul_le_mul_right _ hl
 omega
theorem pg_lst {n B w:Nat}{l:List PyData}(hl:l.length<=w)(h:∀ d∈l,Pg false n B d):Pg false (n+1) (w * (B+2)+3) (.list l):=by
 obtain⟨a,c⟩:=pgall h
 refine⟨by simpa[PyData.showable]using a,?_,by simp only[PyData.depth];omega,?_⟩
 ·rw[if_neg (by decide)];show PyData.hasDict (.list l)=false;unfold PyData.hasDict;exact hasDs_no λ d hd=>by have:=(h d hd).nd;rwa [if_neg (by decide)]at this
 simp only[PyData.shown]
 have:=list_le (b:=B) (ts:=PyData.shownAll l) λ t ht=>by obtain⟨d,hd,rfl⟩:=shownAll_mem ht;exact(h d hd).ln
 rw[shownAll_len]at this
 have:l.length * (B+2)<=w * (B+2):=Nat.mul_le_mul_right _ hl
 omega
theorem Bw_100:∀ n,210<=Bw n
 | 0=>Nat.le_refl _
 | n+1=>Nat.le_trans (Bw_100 n) (Bw_le n)
theorem pg_d0 (n:Nat):Pg true (n+1) (Bw (n+1)) (.dict []):=by
 refine⟨by simp[PyData.showable,PyData.showableKv],by rw[if_pos rfl];simp[hasL,hasLk],by simp[PyData.depth,PyData.depthKv],Nat.le_trans ?_ (Bw_100 _)⟩
 simp only[PyData.shown,PyData.shownKv]
 decide +kernel
theorem pg_d1 (n:Nat):Pg true (n+1) (Bw (n+1)) (.dict [(.str "of",.int 1)]):=by
 refine⟨by simp[PyData.showable,PyData.showableKv];decide,by rw[if_pos rfl];simp[hasL,hasLk],by simp[PyData.depth,PyData.depthKv],Nat.le_trans ?_ (Bw_100 _)⟩
 simp only[PyData.shown,PyData.shownKv]
 decide +kernel
theorem G.toP {c d:Nat}{md:Bool}{s:S}:∀ {n:Nat}{v:AV},G c d md s n v->∀ (m:Nat),n<=m->∃ e,Mm.toP m s v=some e/\Pg md n (Bw n) e
 | 0,v,h,m,_=>gL_toP h md 0 m s
 | n+1,v,.inl h,m,_=>gL_toP h md (n+1) m s
 | n+1,v,.inr (.inl ⟨xs,e,l,h⟩),m,hm=>by
  subst e
  cases m with
  | zero=>omega
  | succ m=>
   obtain⟨q,e1,e2,e3⟩:=mapM_of (P:=Pg md n (Bw n)) (f:=Mm.toP m s) λ x hx=>(h x hx).toP m (by omega)
   exact⟨.tuple q,by unfold Mm.toP;rw[e1];rfl,pg_tup (w:=wd n) (by omega) e3⟩
 | n+1,v,.inr (.inr (.inl ⟨hmd,i,xs,e,ic,id,li,l,h⟩)),m,hm=>by
  subst e hmd
  cases m with
  | zero=>omega
  | succ m=>
   obtain⟨q,e1,e2,e3⟩:=mapM_of (P:=Pg false n (Bw n)) (f:=Mm.toP m s) λ x hx=>(h x hx).toP m (by omega)
   exact⟨.list q,by unfold Mm.toP;simp only[lstO_inv li];rw[e1];rfl,pg_lst (w:=wd n) (by omega) e3⟩
 | n+1,v,.inr (.inr (.inr ⟨hmd,i,e,ic,id,h⟩)),m,hm=>by
  subst e hmd
  cases m with
  | zero=>omega
  | succ m=>
   rcases h with h|h
   ·exact⟨.dict [],by unfold Mm.toP;simp only[h];rfl,pg_d0 n⟩
   ·refine⟨.dict [(.str "of",.int 1)],?_,pg_d1 n⟩
    unfold Mm.toP;simp only[h]
    simp only[dOf,List.map_cons,List.map_nil,List.mapM_cons,List.mapM_nil]
    unfold Mm.toP
    rfl
theorem some06_wp {c d n:Nat}{s:S}(D:Dr c d n s)(hn:n<=700000000):(f__law_some_rows06 [.ref d] s).wp λ v s'=>∃ rs,v=.tup (rs.map rv)/\(∀ r∈rs,R6 r)/\rs.length<=8/\nL rs<=3/\Dr c d (n+300) s'/\Kp c d s s':=by
 have lc:=D.ltc
 have ld:=D.ltd
 unfold f__law_some_rows06 b__law_some_rows06
 walk_at "w"
 refine(take_wp D (by omega) (by omega) (fit9 (by omega) (by omega))).mono ?_
 rintro _ s1 ⟨a,rfl,a0,a1,D1,K1⟩
 refine(take_wp D1 (by omega) (by omega) (fit9 (by omega) (by omega))).mono ?_
 rintro _ s2 ⟨b,rfl,b0,b1,D2,K2⟩
 have D2':=D2.app (e:=[.lst [.int a,.int b]]) (D2.cl.add (by simp[AO.low,lowL,AV.low]))
 refine(take_wp D2' (by omega) (by omega) (fit9 (by omega) (by omega))).mono ?_
 rintro _ s3 ⟨e,rfl,e0,e1,D3,K3⟩
 walk_at "w"
 have l2:=D2.ltc
 have l3:=D2.ltd
 obtain⟨v,hv,ev⟩:=ix_at (s:=s3) (i:=s2.length) (j:=(if e=0 then 1 else 0)) (K3.gk.lst (n:=0) (by omega) (by omega) (lst_new s2 _)) (by split<;>omega) (by show _ < (2:Int);split<;>omega)
 obtain⟨k,rfl,k0,k1⟩:∃ k,v=.int k/\0<=k/\k<=8:=by
  simp only[List.mem_cons,List.not_mem_nil,or_false]at hv
  rcases hv with rfl|rfl<;>exact⟨_,rfl,by omega,by omega⟩
 obtain⟨D4,K4,al⟩:=(((K1.trans K2).gk.trans (Gk.app c d s2 _)).trans K3.gk).cut D D3
 rw[wpe (show(need (lstO s3 s2.length) λ xs=>need (atI xs (if e=0 then 1 else 0)) λ v=>R.ok v s3)=_ from ev)]
 refine⟨⟨al,by simp[AV.low]⟩,?_⟩
 revert D4 K4
 generalize s3.take s.length=s4
 intro D4 K4
 refine(take_wp D4 (by omega) (by omega) (fit9 (by omega) (by omega))).mono ?_
 rintro _ s5 ⟨g,rfl,g0,g1,D5,K5⟩
 walk_at "w"
 refine(names06_wp D5 (by omega) (by omega) (by omega)).mono ?_
 rintro _ s6 ⟨j,zs,rfl,j0,j1,j2,jn,D6,G6⟩
 obtain⟨D7,K7,al7⟩:=(K5.gk.trans G6).cut D4 D6
 have hj:s4.length<=j:=by rw[<-K5.len];exact j0
 simp only[↓WS,↓WE,↓WV,Lq,len_sz,UU,Nat.reduceSub,↓reduceIte,j1,↓wp_if,al7,low_strs,hj]
 revert D7 K7 al7
 generalize s6.take s4.length=s7
 intro D7 K7 al7
 have hz:zs≠[]:=by rintro rfl;have:((0:Nat):Int)=1+g:=j2;omega
 have D7':=D7.app (e:=[.lst (zs.map AV.str)]) (D7.cl.add (by simp[AO.low,low_strs]))
 have l4:=D7.ltc
 have l5:=D7.ltd
 refine(rows06_wp D7' (by omega) (lst_new s7 _) hz jn (by omega) (by omega) (by omega) k0 k1).mono ?_
 rintro _ s8 ⟨rs,rfl,h1,h3,h4,D8,G8⟩
 obtain⟨D9,K9,al9⟩:=(K7.gk.trans ((Gk.app c d s7 _).trans G8)).cut D4 D8
 exact⟨⟨al9,by simp[AV.low,low_rvs]⟩,rs,rfl,h1,h3,h4,D9.mono (by omega),K4.trans K9⟩
theorem pq_facts {q:Rat}(h:Pq q):1<=q.num/\q.num<=(q.den:Int)/\(q.den:Int)<=60/\1<=(q.den:Int):=by
 obtain⟨a,b,h1,h2,h3,rfl⟩:=h
 have e:=fr_rat (t:=a) (b:=b) (by omega)
 have e1:a.fdiv (gsg a b)=(Rat.divInt a b).num:=congrArg Prod.fst e
 have e2:b.fdiv (gsg a b)=((Rat.divInt a b).den:Int):=congrArg Prod.snd e
 have eg:gsg a b=((Int.gcd a b:Nat):Int):=if_neg (by omega)
 have g0:0 < ((Int.gcd a b:Nat):Int):=by
  have:0 < Int.gcd a b:=Int.gcd_pos_of_ne_zero_left _ (by omega)
  omega
 have ga:((Int.gcd a b:Nat):Int)<=a:=Int.le_of_dvd (by omega) (Int.gcd_dvd_left a b)
 rw[eg,Int.fdiv_eq_ediv_of_nonneg _ (by omega)]at e1 e2
 rw[<-e1,<-e2]
 have m1:a / ((Int.gcd a b:Nat):Int)<=b / ((Int.gcd a b:Nat):Int):=Int.ediv_le_ediv g0 h2
 have m2:b / ((Int.gcd a b:Nat):Int)<=b:=Int.ediv_le_self _ (by omega)
 have m3:1<=a / ((Int.gcd a b:Nat):Int):=Int.le_ediv_of_mul_le g0 (by omega)
 exact⟨m3,m1,by omega,by omega⟩
theorem pq_pt {q:Rat}(h:Pq q):isPt (fq q)=true:=by
 obtain⟨h1,h2,h3,h4⟩:=pq_facts h
 show((decide (1<=(q.den:Int)) && decide ((q.den:Int)<=60)) && (decide (1<=q.num) && decide (q.num<=(q.den:Int))) && decide (ig q.num (q.den:Int)=1))=true
 rw[decide_eq_true h4,decide_eq_true h3,decide_eq_true h1,decide_eq_true h2,decide_eq_true ((ig_one h4).mpr (rat_cop q))];rfl
theorem p_int {i:Int}(h:Fit 80 i)(n:Nat):P6 n (.int i):=λ c d md s=>by cases n with|zero=>exact h|succ n=>exact .inl h
theorem p_str {t:Str}(h:Asc t 20)(n:Nat):P6 n (.str t):=λ c d md s=>by cases n with|zero=>exact h|succ n=>exact .inl h
theorem p_non (n:Nat):P6 n .non:=λ c d md s=>by cases n with|zero=>trivial|succ n=>exact .inl trivial
theorem p_bl (b:Bool)(n:Nat):P6 n (.bl b):=λ c d md s=>by cases n with|zero=>trivial|succ n=>exact .inl trivial
theorem p_tup {n:Nat}{xs:List AV}(hl:xs.length<=wd n)(h:∀ x∈xs,P6 n x):P6 (n+1) (.tup xs):=λ c d md s=>.inr (.inl ⟨xs,rfl,hl,λ x hx=>h x hx c d md s⟩)
theorem G.tup {c d:Nat}{md:Bool}{s:S}{n:Nat}{xs:List AV}(hl:xs.length<=wd n)(h:∀ x∈xs,G c d md s n x):G c d md s (n+1) (.tup xs):=.inr (.inl ⟨xs,rfl,hl,h⟩)
theorem G.tup_inv {c d:Nat}{md:Bool}{s:S}{n:Nat}{xs:List AV}(h:G c d md s (n+1) (.tup xs)):xs.length<=wd n/\∀ x∈xs,G c d md s n x:=by
 rcases h with h|⟨ys,e,l,h⟩|⟨_,i,ys,e,_⟩|⟨_,i,e,_⟩
 ·exact h.elim
 ·cases e;exact⟨l,h⟩
 ·cases e
 ·cases e
theorem all2 {P:AV->Prop}{a b:AV}(ha:P a)(hb:P b):∀ x∈[a,b],P x:=λ x hx=>by
 simp only[List.mem_cons,List.not_mem_nil,or_false]at hx
 rcases hx with rfl|rfl<;>assumption
theorem all3 {P:AV->Prop}{a b c:AV}(ha:P a)(hb:P b)(hc:P c):∀ x∈[a,b,c],P x:=λ x hx=>by
 simp only[List.mem_cons,List.not_mem_nil,or_false]at hx
 rcases hx with rfl|rfl|rfl<;>assumption
theorem fitS {i:Int}(h0:0<=i)(h1:i<=1000):Fit 80 i:=(fitI (n:=20) h0 (by omega)).mono (by omega)
theorem p_fq {q:Rat}(h:Pq q):P6 1 (fq q):=by
 obtain⟨h1,h2,h3,h4⟩:=pq_facts h
 exact p_tup (by show 2<=3;omega) (all2 (p_int (fitS (by omega) (by omega)) 0) (p_int (fitS (by omega) (by omega)) 0))
theorem kd_asc:Asc "of" 20/\Asc "left" 20/\Asc "steps" 20/\Asc "length" 20:=by
 have:∀ t∈(["of","left","steps","length"]:List Str),(t.cps.toList.all λ c=>decide (c < 128))=true/\t.length<=20:=by decide +kernel
 have f:∀ t∈(["of","left","steps","length"]:List Str),Asc t 20:=λ t ht=>⟨λ c hc=>of_decide_eq_true (List.all_eq_true.mp (this t ht).1 c hc),(this t ht).2⟩
 exact⟨f _ (by simp),f _ (by simp),f _ (by simp),f _ (by simp)⟩
theorem eqS_same (t:Str):eqS t (.str t)=true:=decide_eq_true rfl
theorem eqS_kd:eqS "of" (.str "steps")=false/\eqS "left" (.str "steps")=false/\eqS "of" (.str "length")=false/\eqS "left" (.str "length")=false/\eqS "steps" (.str "length")=false/\eqS "left" (.str "of")=false:=by
 refine⟨?_,?_,?_,?_,?_,?_⟩<;>decide +kernel
def prR (us:List (Int × Rat)) (z:Rat):List (AV × AV):=us.map (λ p=>(AV.int p.1,fq p.2))++[(.non,fq z)]
theorem prR_tp (us:List (Int × Rat)) (z:Rat):us.map stE++[.tup [.non,fq z]]=(prR us z).map tp2:=by
 unfold prR
 rw[List.map_append,List.map_map];rfl
structure Rk6 (k q:Str)(p:AV):Prop where
 nm:NmS q
 kd:Asc k 20
 pl:P6 3 p
 ok:isRo (.tup [.str k,.str q,p])=true
 st:k="steps"->∃ ps:List (AV × AV),p=.tup (ps.map tp2)/\2<=ps.length/\ps.length<=4/\∀ r∈ps,P6 1 r.1/\P6 1 r.2
theorem r6_facts {r:Rw}(h:R6 r):∃ k q p,rv r=.tup [.str k,.str q,p]/\Rk6 k q p:=by
 obtain⟨ka,kb,kc,kd⟩:=kd_asc
 obtain⟨e1,e2,e3,e4,e5,e6⟩:=eqS_kd
 cases r with
 | of n q=>
  obtain⟨hn,hq⟩:=h
  refine⟨"of",n,fq q,rfl,hn,ka,(p_fq hq).up (by decide),?_,λ e=>absurd e (by decide +kernel)⟩
  rw[isRo_eq,hn.1,eqS_same,pq_pt hq];rfl
 | left n q=>
  obtain⟨hn,hq⟩:=h
  refine⟨"left",n,fq q,rfl,hn,kb,(p_fq hq).up (by decide),?_,λ e=>absurd e (by decide +kernel)⟩
  rw[isRo_eq,hn.1,eqS_same,pq_pt hq,Bool.or_true];rfl
 | len n k=>
  obtain⟨hn,h1,h2⟩:=h
  refine⟨"length",n,.int k,rfl,hn,kd,p_int (fitS (by omega) (by omega)) 3,?_,λ e=>absurd e (by decide +kernel)⟩
  rw[isRo_eq,hn.1,e3,e4,e5,eqS_same]
  show(true && (true && (decide (1<=k) && decide (k<=1000))))=true
  rw[decide_eq_true h1,decide_eq_true h2];rfl
 | steps n us z=>
  obtain⟨hn,h1,h2,h3,h4,h5⟩:=h
  have hp:∀ r∈prR us z,P6 1 r.1/\P6 1 r.2/\isPt r.2=true:=λ r hr=>by
   rcases List.mem_append.mp hr with hr|hr
   ·obtain⟨p,hp,rfl⟩:=List.mem_map.mp hr
    have:=h4 p hp
    exact⟨p_int (fitS (by omega) (by omega)) 1,p_fq this.1,pq_pt this.1⟩
   ·rw[List.mem_singleton.mp hr]
    exact⟨p_non 1,p_fq h5,pq_pt h5⟩
  have hl:(prR us z).length=us.length+1:=by simp[prR]
  refine⟨"steps",n,.tup ((prR us z).map tp2),by rw[<-prR_tp];rfl,hn,kc,p_tup (by rw[List.length_map,hl];show us.length+1<=5;omega) λ x hx=>?_,?_,λ _=>⟨_,rfl,by omega,by omega,λ r hr=>⟨(hp r hr).1,(hp r hr).2.1⟩⟩⟩
  ·obtain⟨r,hr,rfl⟩:=List.mem_map.mp hx
   exact p_tup (by show 2<=3;omega) (all2 (hp r hr).1 (hp r hr).2.1)
  ·rw[isRo_eq,hn.1,e1,e2,eqS_same]
   show isRt (.tup ((prR us z).map tp2))=true
   rw[isRt_eq,List.length_map,hl,decide_eq_true (show 2<=us.length+1 by omega),decide_eq_true (show us.length+1<=4 by omega)]
   have a1:((prR us z).map tp2).all isRate=true:=List.all_eq_true.mpr λ x hx=>by
    obtain⟨r,hr,rfl⟩:=List.mem_map.mp hx
    exact(hp r hr).2.2
   rw[a1,<-prR_tp]
   simp only[List.getLastD_concat,List.dropLast_concat,List.map_map]
   show(true && (true && (isNon (.non) && upOk 1 (us.map (uOf ∘ stE)))))=true
   rw[show(uOf ∘ stE)=(λ p:Int × Rat=>AV.int p.1) from rfl,h3];rfl
theorem lefts_nL:∀ rs:List Rw,lefts (rs.map rv)=nL rs
 | []=>rfl
 | r :: rs=>by
  have ih:=lefts_nL rs
  unfold lefts at ih ⊢
  obtain⟨e1,e2,e3,e4,e5,e6⟩:=eqS_kd
  cases r with
  | left n q=>rw[List.map_cons,List.filter_cons_of_pos (show isLeft (rv (.left n q))=true from eqS_same _),List.length_cons,ih];rfl
  | of n q=>rw[List.map_cons,List.filter_cons_of_neg (by rw[show isLeft (rv (.of n q))=false from e6];decide),ih];rfl
  | steps n us z=>rw[List.map_cons,List.filter_cons_of_neg (by rw[show isLeft (rv (.steps n us z))=false from e2];decide),ih];rfl
  | len n k=>rw[List.map_cons,List.filter_cons_of_neg (by rw[show isLeft (rv (.len n k))=false from e4];decide),ih];rfl
theorem G.okRs {c d:Nat}{md:Bool}{s:S}{v:AV}(h:G c d md s 7 v):Ro.okRs s v:=by
 refine⟨(h.okD 0),λ xs e=>?_⟩
 subst e
 obtain⟨hl,hx⟩:=h.tup_inv
 refine⟨szl (by have:=wd_12 6;omega),λ x hxm=>⟨(hx x hxm).okD 4,λ k q p e=>?_⟩⟩
 have:=hx x hxm
 subst e
 exact(this.tup_inv.2 k (by simp)).kOk
theorem toP_str {n:Nat}{s:S}{v:AV}{x:Str}(h:Mm.toP (n+1) s v=some (.str x)):v=.str x:=by
 have no:∀ {α:Type}{o:Option α}{f:α->PyData},(∀ a,f a≠.str x)->o.map f≠some (.str x):=λ {α o f} h e=>by
  cases o with
  | none=>cases e
  | some a=>exact h a (Option.some.inj e)
 cases v with
 | str y=>unfold Mm.toP at h;cases h;rfl
 | tup xs=>unfold Mm.toP at h;exact absurd h (no (by intro a;simp))
 | ref i=>
  unfold Mm.toP at h
  split at h
  ·exact absurd h (no (by intro a;simp))
  ·exact absurd h (no (by intro a;simp))
  ·cases h
 | _=>unfold Mm.toP at h;cases h
theorem strG {c d:Nat}{md:Bool}{s:S}{v:AV}(h:G c d md s 7 v):∃ t,opStrD [v] s=.ok (.str t) s:=by
 obtain⟨e,e1,e2⟩:=h.toP 20 (by omega)
 refine⟨txtP e,?_⟩
 have hB:Bw 7=14469363:=by decide
 have hs:sizeLine=2 ^ 24:=rfl
 have sh:Shw e:=by
  refine⟨e2.sh,λ hd=>?_,by have:=e2.dp;omega,?_⟩
  ·have:=e2.nd
   cases md with
   | true=>rwa [if_pos rfl]at this
   | false=>rw[if_neg (by decide),hd]at this;cases this
  ·have hl:=e2.ln
   cases e with
   | str x=>
    have:=toP_str (n:=19) e1
    subst this
    rcases h with h|⟨ys,e,_⟩|⟨_,i,ys,e,_⟩|⟨_,i,e,_⟩
    ·exact Asc.small (show Asc x 20 from h) (by decide)
    ·cases e
    ·cases e
    ·cases e
   | _=>show(PyData.shown _).length<=_;omega
 show(need (Mm.toP 20 s v) λ d=>if Shw d then R.ok (AV.str (txtP d)) s else .bad)=_
 rw[e1,need_some,if_pos sh]
def Od (c d:Nat)(s:S)(n:Nat)(v:AV):Prop:=∃ md,G c d md s n v
theorem Od.gk {c d n:Nat}{s s':S}{v:AV}(g:Gk c d s s')(h:Od c d s n v):Od c d s' n v:=let ⟨md,h⟩:=h;⟨md,h.gk g⟩
theorem Od.low {c d n:Nat}{s:S}{v:AV}(h:Od c d s n v):v.low s.length=true:=let ⟨_,h⟩:=h;h.low
theorem Od.up {c d n m:Nat}{s:S}{v:AV}(h:Od c d s n v)(k:n<=m):Od c d s m v:=let ⟨md,h⟩:=h;⟨md,h.up k⟩
theorem P6.od {n:Nat}{v:AV}(h:P6 n v){c d:Nat}{s:S}:Od c d s n v:=⟨true,h _ _ _ _⟩
theorem P6.g {n:Nat}{v:AV}(h:P6 n v){c d:Nat}{md:Bool}{s:S}:G c d md s n v:=h c d md s
theorem G.lst {c d i n:Nat}{s:S}{xs:List AV}(ic:i≠c)(id:i≠d)(l:lstO s i=some xs)(hl:xs.length<=wd n)(h:∀ x∈xs,G c d false s n x):G c d false s (n+1) (.ref i):=.inr (.inr (.inl ⟨rfl,i,xs,rfl,ic,id,l,hl,h⟩))
structure Ol (c d j n:Nat)(s:S)(ys:List AV):Prop where
 l:lstO s j=some ys
 nc:j≠c
 nd:j≠d
 o:∀ y∈ys,Od c d s n y
theorem Ol.gk {c d j n:Nat}{s s':S}{ys:List AV}(h:Ol c d j n s ys)(g:Gk c d s s'):Ol c d j n s' ys:=⟨g.lst (n:=0) h.nc h.nd h.l,h.nc,h.nd,λ y hy=>(h.o y hy).gk g⟩
theorem Dr.od {c d n k:Nat}{s:S}{ys:List AV}(D:Dr c d n s)(h:∀ y∈ys,Od c d s k y):Dr c d n (s++[.lst ys]):=D.app (D.cl.add (by
 simp only[List.all_cons,List.all_nil,Bool.and_true,AO.low]
 exact lowL_of λ x hx=>AV.low.mono (by omega) (h x hx).low))
theorem Ol.new {c d n k:Nat}{s:S}{ys:List AV}(D:Dr c d n s)(h:∀ y∈ys,Od c d s k y):Ol c d s.length k (s++[.lst ys]) ys:=by
 have lc:=D.ltc
 have ld:=D.ltd
 exact⟨lst_last _ _,by omega,by omega,λ y hy=>(h y hy).gk (Gk.app c d s _)⟩
theorem Ol.add {c d i j n:Nat}{s:S}{xs ys:List AV}(h:Ol c d i n s xs)(k:Ol c d j n s ys)(hl:xs.length+ys.length<=1000):opAdd (.ref i) (.ref j) s=.ok (.ref s.length) (s++[.lst (xs++ys)]):=by
 show(need (lstO s i) λ xs=>need (lstO s j) λ ys=>if xs.length+ys.length<=sizeLine then R.ok (AV.ref s.length) (s++[.lst (xs++ys)]) else .bad)=_
 rw[h.l,need_some,k.l,need_some,if_pos (szl hl)]
theorem od_app {c d n:Nat}{s:S}{xs ys:List AV}(h:∀ y∈xs,Od c d s n y)(k:∀ y∈ys,Od c d s n y):∀ y∈xs++ys,Od c d s n y:=λ y hy=>(List.mem_append.mp hy).elim (h y) (k y)
theorem asc_s:Asc "" 20/\Asc "a" 20/\Asc "A" 20/\Asc "a b" 20/\Asc "abcdefghi" 20/\Asc "1" 20/\Asc "2" 20:=by
 have:∀ t∈(["","a","A","a b","abcdefghi","1","2"]:List Str),(t.cps.toList.all λ c=>decide (c < 128))=true/\t.length<=20:=by decide +kernel
 have f:∀ t∈(["","a","A","a b","abcdefghi","1","2"]:List Str),Asc t 20:=λ t ht=>⟨λ c hc=>of_decide_eq_true (List.all_eq_true.mp (this t ht).1 c hc),(this t ht).2⟩
 exact⟨f _ (by simp),f _ (by simp),f _ (by simp),f _ (by simp),f _ (by simp),f _ (by simp),f _ (by simp)⟩
theorem wd3 (n:Nat):3<=wd n:=by match n with|0=>decide|1=>decide|2=>decide|3=>decide|4=>decide|5=>decide|n+6=>show 3<=12;omega
theorem p2 {n:Nat}{a b:AV}(ha:P6 n a)(hb:P6 n b):P6 (n+1) (.tup [a,b]):=p_tup (Nat.le_trans (by show 2<=3;omega) (wd3 n)) (all2 ha hb)
theorem p3 {n:Nat}{a b c:AV}(ha:P6 n a)(hb:P6 n b)(hc:P6 n c):P6 (n+1) (.tup [a,b,c]):=p_tup (wd3 n) (all3 ha hb hc)
theorem p1 {n:Nat}{a:AV}(ha:P6 n a):P6 (n+1) (.tup [a]):=p_tup (Nat.le_trans (by show 1<=3;omega) (wd3 n)) (λ x hx=>by rw[List.mem_singleton.mp hx];exact ha)
theorem pI {n:Nat}(i:Int)(h:i.natAbs < 2 ^ 80:=by decide):P6 n (.int i):=p_int h n
theorem odd06_wp {c d n:Nat}{s:S}(D:Dr c d n s)(hn:n<=900000000):(f__law_odd06 [.ref d] s).wp λ v s'=>Od c d s' 3 v/\Dr c d (n+1) s'/\Gk c d s s':=by
 obtain⟨a1,a2,a3,a4,a5,a6,a7⟩:=asc_s
 obtain⟨ka,kb,kc,kd⟩:=kd_asc
 have lc:=D.ltc
 have ld:=D.ltd
 unfold f__law_odd06 b__law_odd06
 rw[WS.2.2.2.2.2.2.2.2.2.2.2.2.2.2.2.1]
 refine seq_step λ K hK=>?_
 simp only[↓WS,↓WE,↓WV,Lq,len_sz,UU,Nat.reduceSub,↓reduceIte,show(10:Int) ^ (6:Int).toNat=1000000 by decide,show CPow 10 6=True from eq_true (by decide),show(10:Int) ^ (20:Int).toNat=100000000000000000000 by decide,show CPow 10 20=True from eq_true (by decide)]
 refine⟨szl (by simp),?_⟩
 rw[hK]
 clear hK K
 have o1:∀ y∈[AV.non,.bl true,.bl false,.int 0,.int 1,.int (-1),.int 61,.int 1001,.int (1000000+1),.int 100000000000000000000,.str "",.str "a",.str "A",.str "a b",.str "abcdefghi",.str "of",.tup []],Od c d s 3 y:=by
  intro y hy
  simp only[List.mem_cons,List.not_mem_nil,or_false]at hy
  rcases hy with rfl|rfl|rfl|rfl|rfl|rfl|rfl|rfl|rfl|rfl|rfl|rfl|rfl|rfl|rfl|rfl|rfl
  ·exact(p_non 3).od
  ·exact(p_bl _ 3).od
  ·exact(p_bl _ 3).od
  ·exact(pI 0).od
  ·exact(pI 1).od
  ·exact(pI (-1)).od
  ·exact(pI 61).od
  ·exact(pI 1001).od
  ·exact(pI (1000000+1)).od
  ·exact(pI 100000000000000000000).od
  ·exact(p_str a1 3).od
  ·exact(p_str a2 3).od
  ·exact(p_str a3 3).od
  ·exact(p_str a4 3).od
  ·exact(p_str a5 3).od
  ·exact(p_str ka 3).od
  ·exact(p_tup (n:=2) (xs:=[]) (by decide) (λ _ h=>nomatch h)).od
 have O1:=Ol.new D o1
 have D1:=D.od o1
 have G1:=Gk.app c d s [.lst [AV.non,.bl true,.bl false,.int 0,.int 1,.int (-1),.int 61,.int 1001,.int (1000000+1),.int 100000000000000000000,.str "",.str "a",.str "A",.str "a b",.str "abcdefghi",.str "of",.tup []]]
 have L1:([AV.non,.bl true,.bl false,.int 0,.int 1,.int (-1),.int 61,.int 1001,.int (1000000+1),.int 100000000000000000000,.str "",.str "a",.str "A",.str "a b",.str "abcdefghi",.str "of",.tup []]:List AV).length=17:=rfl
 show(sSeq _ _ [some (.ref d),some (.ref s.length)] _).wp _ _
 revert O1 D1 G1 L1
 generalize [AV.non,.bl true,.bl false,.int 0,.int 1,.int (-1),.int 61,.int 1001,.int (1000000+1),.int 100000000000000000000,.str "",.str "a",.str "A",.str "a b",.str "abcdefghi",.str "of",.tup []]=ys1
 generalize s++[.lst ys1]=s1
 generalize s.length=j1
 intro O1 D1 G1 L1
 clear o1
 refine seq_step λ K hK=>?_
 walk_at "w"
 refine⟨szl (by simp),?_⟩
 have lc1:=D1.ltc
 have ld1:=D1.ltd
 have i12:P6 1 (.tup [.int 1,.int 2]):=p2 (pI 1) (pI 2)
 have E2:Ol c d s1.length 2 (s1++[.lst [.int 1,.int 2]]) [.int 1,.int 2]:=Ol.new D1 (all2 (P6.od (pI 1)) (P6.od (pI 2)))
 have D2:Dr c d n (s1++[.lst [.int 1,.int 2]]):=D1.od (k:=2) (all2 (P6.od (pI 1)) (P6.od (pI 2)))
 have G2:=Gk.app c d s1 [.lst [.int 1,.int 2]]
 revert E2 D2 G2
 generalize s1++[.lst [.int 1,.int 2]]=s2
 intro E2 D2 G2
 have g2:G c d false s2 3 (.ref s1.length):=(G.lst (n:=1) E2.nc E2.nd E2.l (by show 2<=3;omega) (all2 (P6.g (pI 1)) (P6.g (pI 2)))).up (by decide)
 have o2:∀ y∈[AV.tup [.int 1,.int 2],.ref s1.length,.tup [.int 2,.int 4],.tup [.int 0,.int 1],.tup [.int 1,.int 1],.tup [.int 3,.int 2],.tup [.int 1,.int 61],.tup [.int 60,.int 60],.tup [.bl true,.int 1],.tup [.int 1,.bl true],.tup [.int 1,.int 2,.int 3]],Od c d s2 3 y:=by
  intro y hy
  simp only[List.mem_cons,List.not_mem_nil,or_false]at hy
  rcases hy with rfl|rfl|rfl|rfl|rfl|rfl|rfl|rfl|rfl|rfl|rfl
  ·exact(p2 (pI 1) (pI 2)).od
  ·exact⟨_,g2⟩
  ·exact(p2 (pI 2) (pI 4)).od
  ·exact(p2 (pI 0) (pI 1)).od
  ·exact(p2 (pI 1) (pI 1)).od
  ·exact(p2 (pI 3) (pI 2)).od
  ·exact(p2 (pI 1) (pI 61)).od
  ·exact(p2 (pI 60) (pI 60)).od
  ·exact(p2 (p_bl _ _) (pI 1)).od
  ·exact(p2 (pI 1) (p_bl _ _)).od
  ·exact(p3 (pI 1) (pI 2) (pI 3)).od
 have H2:=Ol.new D2 o2
 have D3:=D2.od o2
 have F2:=G2.trans (Gk.app c d s2 [.lst [AV.tup [.int 1,.int 2],.ref s1.length,.tup [.int 2,.int 4],.tup [.int 0,.int 1],.tup [.int 1,.int 1],.tup [.int 3,.int 2],.tup [.int 1,.int 61],.tup [.int 60,.int 60],.tup [.bl true,.int 1],.tup [.int 1,.bl true],.tup [.int 1,.int 2,.int 3]]])
 rw[wpe ((O1.gk F2).add H2 (by rw[L1];show 17+11<=1000;decide))]
 rw[hK]
 clear hK K
 have o3:=od_app (O1.gk F2).o H2.o
 have O3:=Ol.new D3 o3
 have D4:=D3.od o3
 have G4:=(G1.trans F2).trans (Gk.app c d _ [.lst (ys1++[AV.tup [.int 1,.int 2],.ref s1.length,.tup [.int 2,.int 4],.tup [.int 0,.int 1],.tup [.int 1,.int 1],.tup [.int 3,.int 2],.tup [.int 1,.int 61],.tup [.int 60,.int 60],.tup [.bl true,.int 1],.tup [.int 1,.bl true],.tup [.int 1,.int 2,.int 3]])])
 have L3:(ys1++[AV.tup [.int 1,.int 2],.ref s1.length,.tup [.int 2,.int 4],.tup [.int 0,.int 1],.tup [.int 1,.int 1],.tup [.int 3,.int 2],.tup [.int 1,.int 61],.tup [.int 60,.int 60],.tup [.bl true,.int 1],.tup [.int 1,.bl true],.tup [.int 1,.int 2,.int 3]]).length=28:=by rw[List.length_append,L1];rfl
 show(sSeq _ _ [some (.ref d),some (.ref _)] _).wp _ _
 clear o3 F2 H2 o2 g2 G2 D2 E2 D1 G1 O1 D3 lc1 ld1
 revert O3 D4 G4 L3
 generalize (ys1++[AV.tup [.int 1,.int 2],.ref s1.length,.tup [.int 2,.int 4],.tup [.int 0,.int 1],.tup [.int 1,.int 1],.tup [.int 3,.int 2],.tup [.int 1,.int 61],.tup [.int 60,.int 60],.tup [.bl true,.int 1],.tup [.int 1,.bl true],.tup [.int 1,.int 2,.int 3]])=ys3
 generalize (s2++[AO.lst [AV.tup [.int 1,.int 2],.ref s1.length,.tup [.int 2,.int 4],.tup [.int 0,.int 1],.tup [.int 1,.int 1],.tup [.int 3,.int 2],.tup [.int 1,.int 61],.tup [.int 60,.int 60],.tup [.bl true,.int 1],.tup [.int 1,.bl true],.tup [.int 1,.int 2,.int 3]]])=s3
 generalize s3++[.lst ys3]=s4
 generalize s3.length=j3
 intro O3 D4 G4 L3
 refine seq_step λ K hK=>?_
 have md:∀ (env:En) (st:S),mDisp [((mc (.str "of")),(mc (.int 1)))] env st=.ok (.ref st.length) (st++[.dK dOf]):=λ _ _=>rfl
 simp only[↓WS,↓WE,↓WV,Lq,len_sz,UU,Nat.reduceSub,↓reduceIte,↓wpe (md _ _)]
 have lc4:=D4.ltc
 have ld4:=D4.ltd
 have pr:P6 2 (.tup [.str "of",.str "a",.tup [.int 1,.int 2]]):=p3 (p_str ka 1) (p_str a2 1) i12
 have m1:∀ y∈[AV.str "of",.str "a",.tup [.int 1,.int 2]],P6 1 y:=all3 (p_str ka 1) (p_str a2 1) i12
 have A1:=Ol.new D4 (ys:=[AV.str "of",.str "a",.tup [.int 1,.int 2]]) (λ y hy=>(m1 y hy).od)
 have B1:=D4.od (ys:=[AV.str "of",.str "a",.tup [.int 1,.int 2]]) (λ y hy=>(m1 y hy).od)
 have C1:=Gk.app c d s4 [.lst [AV.str "of",.str "a",.tup [.int 1,.int 2]]]
 have A2:G c d false (s4++[.lst [AV.str "of",.str "a",.tup [.int 1,.int 2]]]) 2 (.ref s4.length):=G.lst (n:=1) A1.nc A1.nd A1.l (by show 3<=3;omega) (λ y hy=>m1 y hy _ _ _ _)
 revert A2 B1 C1
 generalize (s4++[.lst [AV.str "of",.str "a",.tup [.int 1,.int 2]]])=s5
 intro B1 C1 A2
 have lc5:=B1.ltc
 have ld5:=B1.ltd
 have B2:Dr c d n (s5++[.dK []]):=B1.app (B1.cl.add (by simp[AO.low,lowL]))
 have C2:=C1.trans (Gk.app c d s5 [.dK []])
 have X1:=A2.gk (Gk.app c d s5 [.dK []])
 have Y1:G c d true (s5++[.dK []]) 1 (.ref s5.length):=.inr (.inr (.inr ⟨rfl,s5.length,rfl,by omega,by omega,.inl (by simp)⟩))
 revert B2 C2 X1 Y1
 generalize s5++[.dK []]=s6
 intro B2 C2 X1 Y1
 have lc6:=B2.ltc
 have ld6:=B2.ltd
 have B3:Dr c d n (s6++[.dK dOf]):=B2.app (B2.cl.add (by simp[AO.low,lowL,dOf,AV.low]))
 have C3:=C2.trans (Gk.app c d s6 [.dK dOf])
 have X2:=X1.gk (Gk.app c d s6 [.dK dOf])
 have Y2:=Y1.gk (Gk.app c d s6 [.dK dOf])
 have Z1:G c d true (s6++[.dK dOf]) 1 (.ref s6.length):=.inr (.inr (.inr ⟨rfl,s6.length,rfl,by omega,by omega,.inr (by simp)⟩))
 revert B3 C3 X2 Y2 Z1
 generalize s6++[.dK dOf]=s7
 intro B3 C3 X2 Y2 Z1
 have lc7:=B3.ltc
 have ld7:=B3.ltd
 have B4:Dr c d n (s7++[.lst []]):=B3.app (B3.cl.add (by simp[AO.low,lowL]))
 have g7:=Gk.app c d s7 [.lst []]
 have C4:=C3.trans g7
 have X3:=X2.gk g7
 have Y3:=Y2.gk g7
 have Z2:=Z1.gk g7
 have W1:G c d false (s7++[.lst []]) 1 (.ref s7.length):=G.lst (n:=0) (by omega) (by omega) (lst_last _ _) (by decide) (λ _ h=>nomatch h)
 revert B4 C4 X3 Y3 Z2 W1
 generalize s7++[.lst []]=s8
 intro B4 C4 X3 Y3 Z2 W1
 have lc8:=B4.ltc
 have ld8:=B4.ltd
 have m8:∀ y∈[AV.ref s7.length],G c d false s8 1 y:=λ y hy=>by rw[List.mem_singleton.mp hy];exact W1
 have B5:=B4.od (ys:=[AV.ref s7.length]) (λ y hy=>⟨_,m8 y hy⟩)
 have g8:=Gk.app c d s8 [.lst [AV.ref s7.length]]
 have C5:=C4.trans g8
 have X4:=X3.gk g8
 have Y4:=Y3.gk g8
 have Z3:=Z2.gk g8
 have W2:G c d false (s8++[.lst [AV.ref s7.length]]) 2 (.ref s8.length):=G.lst (n:=1) (by omega) (by omega) (lst_last _ _) (by show 1<=3;decide) (λ y hy=>(m8 y hy).gk g8)
 revert B5 C5 X4 Y4 Z3 W2
 generalize s8++[.lst [AV.ref s7.length]]=s9
 intro B5 C5 X4 Y4 Z3 W2
 have prt:P6 3 (.tup [.tup [.int 3,.tup [.int 1,.int 2]],.tup [.non,.tup [.int 1,.int 2]]]):=p2 (p2 (pI 3) i12) (p2 (p_non 1) i12)
 have o9:∀ y∈[AV.tup [.str "of",.str "a",.tup [.int 1,.int 2]],.ref s4.length,.ref s5.length,.ref s6.length,.tup [.tup [.int 3,.tup [.int 1,.int 2]],.tup [.non,.tup [.int 1,.int 2]]],.ref s8.length],Od c d s9 3 y:=by
  intro y hy
  simp only[List.mem_cons,List.not_mem_nil,or_false]at hy
  rcases hy with rfl|rfl|rfl|rfl|rfl|rfl
  ·exact(pr.up (by decide)).od
  ·exact⟨_,X4.up (by decide)⟩
  ·exact⟨_,Y4.up (by decide)⟩
  ·exact⟨_,Z3.up (by decide)⟩
  ·exact prt.od
  ·exact⟨_,W2.up (by decide)⟩
 have H9:=Ol.new B5 o9
 have D9:=B5.od o9
 have F9:=C5.trans (Gk.app c d s9 [.lst [AV.tup [.str "of",.str "a",.tup [.int 1,.int 2]],.ref s4.length,.ref s5.length,.ref s6.length,.tup [.tup [.int 3,.tup [.int 1,.int 2]],.tup [.non,.tup [.int 1,.int 2]]],.ref s8.length]])
 rw[wpe ((O3.gk F9).add H9 (by rw[L3];show 28+6<=1000;decide))]
 rw[hK]
 clear hK K
 have o10:=od_app (O3.gk F9).o H9.o
 have O10:=Ol.new D9 o10
 have D10:=D9.od o10
 have G10:=(G4.trans F9).trans (Gk.app c d _ [.lst (ys3++[AV.tup [.str "of",.str "a",.tup [.int 1,.int 2]],.ref s4.length,.ref s5.length,.ref s6.length,.tup [.tup [.int 3,.tup [.int 1,.int 2]],.tup [.non,.tup [.int 1,.int 2]]],.ref s8.length])])
 have L10:(ys3++[AV.tup [.str "of",.str "a",.tup [.int 1,.int 2]],.ref s4.length,.ref s5.length,.ref s6.length,.tup [.tup [.int 3,.tup [.int 1,.int 2]],.tup [.non,.tup [.int 1,.int 2]]],.ref s8.length]).length=34:=by rw[List.length_append,L3];rfl
 show(sSeq _ _ [some (.ref d),some (.ref _)] _).wp _ _
 clear o10 F9 H9 o9 W2 Z3 Y4 X4 C5 B5
 revert O10 D10 G10 L10
 generalize (ys3++[AV.tup [.str "of",.str "a",.tup [.int 1,.int 2]],.ref s4.length,.ref s5.length,.ref s6.length,.tup [.tup [.int 3,.tup [.int 1,.int 2]],.tup [.non,.tup [.int 1,.int 2]]],.ref s8.length])=ys4
 generalize (s9++[AO.lst [AV.tup [.str "of",.str "a",.tup [.int 1,.int 2]],.ref s4.length,.ref s5.length,.ref s6.length,.tup [.tup [.int 3,.tup [.int 1,.int 2]],.tup [.non,.tup [.int 1,.int 2]]],.ref s8.length]])=s10
 generalize s10++[.lst ys4]=s11
 generalize s10.length=j11
 intro O11 D11 G11 L11
 clear W1 Z1 Z2 Y1 Y2 Y3 X1 X2 X3 A2 A1 m8 B4 B3 B2 B1 C4 C3 C2 C1 g7 g8 lc8 ld8 lc7 ld7 lc6 ld6 lc5 ld5 lc4 ld4 O3 D4 G4 L3 m1 md
 refine seq_step λ K hK=>?_
 walk_at "w"
 refine⟨szl (by simp),?_⟩
 have lc4:=D11.ltc
 have ld4:=D11.ltd
 have m1:∀ y∈[AV.int 1],P6 1 y:=λ y hy=>by rw[List.mem_singleton.mp hy];exact pI 1
 have m2:∀ y∈[AV.int 2],P6 1 y:=λ y hy=>by rw[List.mem_singleton.mp hy];exact pI 2
 have B1:=D11.od (ys:=[AV.int 1]) (λ y hy=>(m1 y hy).od)
 have C1:=Gk.app c d s11 [.lst [AV.int 1]]
 have A1:G c d false (s11++[.lst [AV.int 1]]) 2 (.ref s11.length):=G.lst (n:=1) (by omega) (by omega) (lst_last _ _) (by decide) (λ y hy=>(m1 y hy).g)
 revert B1 C1 A1
 generalize (s11++[.lst [AV.int 1]])=s12
 intro B1 C1 A1
 have lc5:=B1.ltc
 have ld5:=B1.ltd
 have B2:=B1.od (ys:=[AV.int 2]) (λ y hy=>(m2 y hy).od)
 have g12:=Gk.app c d s12 [.lst [AV.int 2]]
 have C2:=C1.trans g12
 have A2:=A1.gk g12
 have A3:G c d false (s12++[.lst [AV.int 2]]) 2 (.ref s12.length):=G.lst (n:=1) (by omega) (by omega) (lst_last _ _) (by decide) (λ y hy=>(m2 y hy).g)
 revert B2 C2 A2 A3
 generalize (s12++[.lst [AV.int 2]])=s13
 intro B2 C2 A2 A3
 have o13:∀ y∈[AV.tup [.str "1",.int 2],.tup [.non,.int 2],.tup [.int 1,.str "2"],.tup [.int 1,.non],.tup [.ref s11.length,.int 2],.tup [.tup [.int 1],.int 2],.tup [.int 1,.ref s12.length]],Od c d s13 3 y:=by
  intro y hy
  simp only[List.mem_cons,List.not_mem_nil,or_false]at hy
  rcases hy with rfl|rfl|rfl|rfl|rfl|rfl|rfl
  ·exact(p2 (p_str a6 2) (pI 2)).od
  ·exact(p2 (p_non 2) (pI 2)).od
  ·exact(p2 (pI 1) (p_str a7 2)).od
  ·exact(p2 (pI 1) (p_non 2)).od
  ·exact⟨false,G.tup (n:=2) (by show 2<=5;omega) (all2 A2 (P6.g (pI 2)))⟩
  ·exact(p2 (p1 (pI 1)) (pI 2)).od
  ·exact⟨false,G.tup (n:=2) (by show 2<=5;omega) (all2 (P6.g (pI 1)) A3)⟩
 have H13:=Ol.new B2 o13
 have D13:=B2.od o13
 have F13:=C2.trans (Gk.app c d s13 [.lst [AV.tup [.str "1",.int 2],.tup [.non,.int 2],.tup [.int 1,.str "2"],.tup [.int 1,.non],.tup [.ref s11.length,.int 2],.tup [.tup [.int 1],.int 2],.tup [.int 1,.ref s12.length]]])
 rw[wpe ((O11.gk F13).add H13 (by rw[L11];show 34+7<=1000;decide))]
 rw[hK]
 clear hK K
 have o14:=od_app (O11.gk F13).o H13.o
 have O14:=Ol.new D13 o14
 have D14:=D13.od o14
 have G14:=(G11.trans F13).trans (Gk.app c d _ [.lst (ys4++[AV.tup [.str "1",.int 2],.tup [.non,.int 2],.tup [.int 1,.str "2"],.tup [.int 1,.non],.tup [.ref s11.length,.int 2],.tup [.tup [.int 1],.int 2],.tup [.int 1,.ref s12.length]])])
 have L14:(ys4++[AV.tup [.str "1",.int 2],.tup [.non,.int 2],.tup [.int 1,.str "2"],.tup [.int 1,.non],.tup [.ref s11.length,.int 2],.tup [.tup [.int 1],.int 2],.tup [.int 1,.ref s12.length]]).length=41:=by rw[List.length_append,L11];rfl
 show(sRet _ [some (.ref d),some (.ref _)] _).wp _ _
 revert O14 D14 G14 L14
 generalize (ys4++[AV.tup [.str "1",.int 2],.tup [.non,.int 2],.tup [.int 1,.str "2"],.tup [.int 1,.non],.tup [.ref s11.length,.int 2],.tup [.tup [.int 1],.int 2],.tup [.int 1,.ref s12.length]])=ys5
 generalize (s13++[AO.lst [AV.tup [.str "1",.int 2],.tup [.non,.int 2],.tup [.int 1,.str "2"],.tup [.int 1,.non],.tup [.ref s11.length,.int 2],.tup [.tup [.int 1],.int 2],.tup [.int 1,.ref s12.length]]])=s14
 generalize s14++[.lst ys5]=s15
 generalize s14.length=j15
 intro O15 D15 G15 L15
 simp only[↓WS,↓WE,↓WV,Lq,len_sz,UU,Nat.reduceSub,↓reduceIte,↓wpe (len_at O15.l)]
 rw[L15]
 refine(take_wp D15 (by omega) (by omega) (fit9 (by omega) (by omega))).mono ?_
 rintro _ s16 ⟨r,rfl,r0,r1,D16,K16⟩
 obtain⟨v,hv,ev⟩:=ix_at (O15.gk K16.gk).l r0 (by rw[L15];exact r1)
 rw[wpe ev]
 exact⟨(O15.gk K16.gk).o v hv,D16,G15.trans K16.gk⟩
def Tv (n N:Nat)(m:Ev)(env:En):Prop:=∀ st,∃ xs,m env st=.ok (.tup xs) st/\xs.length<=N/\∀ x∈xs,P6 n x
theorem tv_var {n N:Nat}{m:Ev}{env:En}{xs:List AV}(h:∀ st,m env st=.ok (.tup xs) st) (hl:xs.length<=N)(hx:∀ x∈xs,P6 n x):Tv n N m env:=λ st=>⟨xs,h st,hl,hx⟩
theorem cutA_mem {α:Type}{xs:List α}{l h:Option Int}{x:α}(hx:x∈cutA xs l h):x∈xs:=by
 unfold cutA at hx
 exact List.mem_of_mem_drop (List.mem_of_mem_take hx)
theorem tv_sl {n N M:Nat}{m:Ev}{lo hi:Eo}{env:En}{l h:Option Int}(hm:Tv n N m env)(hlo:∀ st:S,lo env st=.ok l st)(hhi:∀ st:S,hi env st=.ok h st)(hl:∀ xs:List AV,xs.length<=N->(cutA xs l h).length<=M):Tv n M (mSl m lo hi) env:=λ st=>by
 obtain⟨xs,e,hN,hx⟩:=hm st
 refine⟨cutA xs l h,?_,hl xs hN,λ x hxm=>hx x (cutA_mem hxm)⟩
 unfold mSl
 rw[e,bind_ok',hlo,bind_ok',hhi,bind_ok'];rfl
theorem addT_tup {xs ys:List AV}{s:S}(h:xs.length+ys.length<=1000):opAddT (.tup xs) (.tup ys) s=.ok (.tup (xs++ys)) s:=by
 show(if xs.length+ys.length<=sizeLine then R.ok (AV.tup (xs++ys)) s else .bad)=_
 rw[if_pos (szl h)]
theorem tv_add {n N M:Nat}{m m2:Ev}{env:En}(h:Tv n N m env)(k:Tv n M m2 env)(hl:N+M<=1000):Tv n (N+M) (mBin opAddT m m2) env:=λ st=>by
 obtain⟨xs,e,h1,h2⟩:=h st
 obtain⟨ys,e',k1,k2⟩:=k st
 refine⟨xs++ys,bin_ok e e' (addT_tup (by omega)),by rw[List.length_append];omega,λ x hx=>(List.mem_append.mp hx).elim (h2 x) (k2 x)⟩
theorem cut_to {α:Type}(xs:List α){a:Int}(h:0<=a):(cutA xs none (some a)).length<=a.toNat:=by
 obtain⟨a,rfl⟩:∃ m:Nat,a=m:=⟨a.toNat,by omega⟩
 unfold cutA
 rw[HT.sIx_nat,List.length_take,List.length_drop]
 show _<=a
 have:HT.sIx xs.length 0 none=0:=rfl
 rw[this];omega
theorem cut_from {α:Type}(xs:List α){a:Int}(h:0<=a):(cutA xs (some a) none).length<=xs.length - a.toNat:=by
 obtain⟨a,rfl⟩:∃ m:Nat,a=m:=⟨a.toNat,by omega⟩
 unfold cutA
 rw[HT.sIx_nat,List.length_take,List.length_drop]
 have:HT.sIx xs.length xs.length none=xs.length:=rfl
 rw[this]
 show _<=xs.length - a
 omega
theorem cut_end {α:Type}(xs:List α):(cutA xs (some (-1)) none).length<=1:=by
 unfold cutA
 rw[List.length_take,List.length_drop]
 have h1:HT.sIx xs.length xs.length none=xs.length:=rfl
 have h2:HT.sIx xs.length 0 (some (-1))=xs.length - 1:=by
  show(if (-1:Int) < 0 then ((-1:Int)+(xs.length:Int)).toNat else min (-1:Int).toNat xs.length)=_
  rw[if_pos (by decide)];omega
 rw[h1,h2];omega
theorem cut_le {α:Type}(xs:List α)(l h:Option Int):(cutA xs l h).length<=xs.length:=by
 unfold cutA
 rw[List.length_take,List.length_drop];omega
def Mk (c d k w:Nat)(s0:S)(m:Ev)(env:En):Prop:=∀ n st,Dr c d n st->n+w<=900000000->Gk c d s0 st->(m env st).wp λ v st'=>Od c d st' k v/\Dr c d (n+w) st'/\Gk c d st st'
def Mks (c d k w N:Nat)(s0:S)(r:Evs)(env:En):Prop:=∀ n st,Dr c d n st->n+w<=900000000->Gk c d s0 st->(r env st).wp λ vs st'=>vs.length=N/\(∀ v∈vs,Od c d st' k v)/\Dr c d (n+w) st'/\Gk c d st st'
def MkL (c d k w N:Nat)(s0:S)(m:Ev)(env:En):Prop:=∀ n st,Dr c d n st->n+w<=900000000->Gk c d s0 st->(m env st).wp λ v st'=>∃ j ys,v=.ref j/\ys.length=N/\Ol c d j k st' ys/\Dr c d (n+w) st'/\Gk c d st st'
theorem mk_pure {c d k:Nat}{s0:S}{m:Ev}{env:En}{v:AV}(h:∀ st:S,m env st=.ok v st)(o:P6 k v):Mk c d k 0 s0 m env:=λ n st D _ _=>by
 rw[wpe (h st)]
 exact⟨o.od,D,Gk.refl c d st⟩
theorem mk_tv {c d k n N:Nat}{s0:S}{m:Ev}{env:En}(h:Tv n N m env)(hN:N<=wd n)(hk:n+1<=k):Mk c d k 0 s0 m env:=λ n' st D _ _=>by
 obtain⟨xs,e,h1,h2⟩:=h st
 rw[wpe e]
 exact⟨((p_tup (n:=n) (by omega) h2).up hk).od,D,Gk.refl c d st⟩
theorem mk_list {c d k n N:Nat}{s0:S}{m:Ev}{env:En}(h:Tv n N m env)(hN:N<=wd n)(hk:n+1<=k):Mk c d k 0 s0 (mNew (gOp qList (lIts m))) env:=λ n' st D _ _=>by
 obtain⟨xs,e,h1,h2⟩:=h st
 have lc:=D.ltc
 have ld:=D.ltd
 have e2:mNew (gOp qList (lIts m)) env st=.ok (.ref st.length) (st++[.lst xs]):=new_ok (by unfold gOp lIts;rw[e];rfl)
 rw[wpe e2]
 exact⟨⟨false,(G.lst (n:=n) (by omega) (by omega) (lst_last _ _) (by omega) λ x hx=>(h2 x hx).g).up hk⟩,D.od (λ x hx=>(h2 x hx).od),Gk.app c d st _⟩
theorem mk_mid {c d k n w NA NB:Nat}{s0:S}{A B e:Ev}{env:En}(hA:Tv n NA A env)(hB:Tv n NB B env)(he:Mk c d n w s0 e env)(hl:NA+1+NB<=wd n)(hk:n+1<=k):Mk c d k w s0 (mBin opAddT (mBin opAddT A (mTup (pCons e pNil))) B) env:=λ n' st D hn g=>by
 have w12:=wd_12 n
 obtain⟨as,ea,a1,a2⟩:=hA st
 rw[WE.2.1,WE.2.1,wpe ea,WE.2.2.2.1,WE.2.2.2.2.2.2.2.1]
 refine(he n' st D hn g).mono ?_
 rintro v st' ⟨⟨md,hv⟩,D',g'⟩
 obtain⟨bs,eb,b1,b2⟩:=hB st'
 rw[WE.2.2.2.2.2.2.2.2.1]
 refine⟨szl (by simp),?_⟩
 rw[wpe (addT_tup (by simp;omega)),wpe eb,wpe (addT_tup (by simp;omega))]
 refine⟨⟨md,(G.tup (n:=n) (by simp;omega) λ x hx=>?_).up hk⟩,D',g'⟩
 rcases List.mem_append.mp hx with hx|hx
 ·rcases List.mem_append.mp hx with hx|hx
  ·exact(a2 x hx).g
  ·rw[List.mem_singleton.mp hx];exact hv
 ·exact(b2 x hx).g
theorem mks_nil {c d k:Nat}{s0:S}{env:En}:Mks c d k 0 0 s0 pNil env:=λ n st D _ _=>by
 rw[WE.2.2.2.2.2.2.2.2.1]
 exact⟨rfl,(λ _ h=>nomatch h),D,Gk.refl c d st⟩
theorem mks_cons {c d k w w2 N:Nat}{s0:S}{m:Ev}{r:Evs}{env:En}(hm:Mk c d k w s0 m env)(hr:Mks c d k w2 N s0 r env):Mks c d k (w+w2) (N+1) s0 (pCons m r) env:=λ n st D hn g=>by
 rw[WE.2.2.2.2.2.2.2.1]
 refine(hm n st D (by omega) g).mono ?_
 rintro v st1 ⟨o1,D1,g1⟩
 refine(hr (n+w) st1 D1 (by omega) (g.trans g1)).mono ?_
 rintro vs st2 ⟨l2,o2,D2,g2⟩
 refine⟨by rw[List.length_cons,l2],λ x hx=>?_,D2.mono (by omega),g1.trans g2⟩
 rcases List.mem_cons.mp hx with rfl|hx
 ·exact o1.gk g2
 ·exact o2 x hx
theorem mkl_new {c d k w N:Nat}{s0:S}{r:Evs}{env:En}(h:Mks c d k w N s0 r env)(hN:N<=1000):MkL c d k w N s0 (mNew (lLst r)) env:=λ n st D hn g=>by
 rw[WE.2.2.2.2.2.1,WE.2.2.2.2.1]
 refine(h n st D hn g).mono ?_
 rintro vs st' ⟨l,o,D',g'⟩
 exact⟨szl (by omega),_,vs,rfl,l,Ol.new D' o,D'.od o,g'.trans (Gk.app c d st' _)⟩
theorem mkl_var {c d k j N:Nat}{s0:S}{m:Ev}{env:En}{ys:List AV}(h:Ol c d j k s0 ys)(hl:ys.length=N)(e:∀ st:S,m env st=.ok (.ref j) st):MkL c d k 0 N s0 m env:=λ n st D hn g=>by
 rw[wpe (e st)]
 exact⟨j,ys,rfl,hl,h.gk g,D,Gk.refl c d st⟩
theorem mkl_add {c d k w w2 N M:Nat}{s0:S}{m m2:Ev}{env:En}(h:MkL c d k w N s0 m env)(h2:MkL c d k w2 M s0 m2 env)(hl:N+M<=1000):MkL c d k (w+w2) (N+M) s0 (mBin opAddT m m2) env:=λ n st D hn g=>by
 rw[WE.2.1]
 refine(h n st D (by omega) g).mono ?_
 rintro _ st1 ⟨j1,ys1,rfl,l1,o1,D1,g1⟩
 refine(h2 (n+w) st1 D1 (by omega) (g.trans g1)).mono ?_
 rintro _ st2 ⟨j2,ys2,rfl,l2,o2,D2,g2⟩
 have e:opAddT (.ref j1) (.ref j2) st2=.ok (.ref st2.length) (st2++[.lst (ys1++ys2)]):=(o1.gk g2).add o2 (by omega)
 rw[wpe e]
 have oo:=od_app (o1.gk g2).o o2.o
 exact⟨_,_,rfl,by rw[List.length_append,l1,l2],Ol.new D2 oo,(D2.od oo).mono (by omega),(g1.trans g2).trans (Gk.app c d st2 _)⟩
theorem mk_ix {c d k w N:Nat}{s0:S}{m:Ev}{env:En}{i:Int}(h:MkL c d k w N s0 m env)(hi:i=N)(h1:0 < i)(h2:i<=1000)(e:∀ st:S,mv 0 env st=.ok (.ref d) st):Mk c d k (w+1) s0 (mBin opIx m (mCall 2 f__law_take (pCons (mv 0) (pCons (mc (.int i)) pNil)))) env:=λ n st D hn g=>by
 rw[WE.2.1]
 refine(h n st D (by omega) g).mono ?_
 rintro _ st1 ⟨j1,ys1,rfl,l1,o1,D1,g1⟩
 rw[WE.2.2.2.2.2.2.1,WE.2.2.2.2.2.2.2.1,wpe (e st1)]
 walk_at "w"
 refine(take_wp D1 (by omega) h1 (fit9 (by omega) (by omega))).mono ?_
 rintro _ s2 ⟨r,rfl,r0,r1,D2,K2⟩
 obtain⟨v,hv,ev⟩:=ix_at (o1.gk K2.gk).l r0 (by rw[l1];omega)
 rw[wpe ev]
 exact⟨(o1.gk K2.gk).o v hv,D2,g1.trans K2.gk⟩
theorem mk_odd {c d w:Nat}{s0:S}{env:En}(e:∀ st:S,mv 0 env st=.ok (.ref d) st) {k:Nat}(hk:3<=k):Mk c d k 1 s0 (mCall 1 f__law_odd06 (pCons (mv 0) pNil)) env:=λ n st D hn g=>by
 rw[WE.2.2.2.2.2.2.1,WE.2.2.2.2.2.2.2.1,wpe (e st)]
 walk_at "w"
 refine(odd06_wp D (by omega)).mono ?_
 rintro v s' ⟨o,D',g'⟩
 exact⟨o.up hk,D',g'⟩
theorem mk_two1 {c d k n w:Nat}{s0:S}{e f:Ev}{env:En}{v:AV}(he:Mk c d n w s0 e env)(hf:∀ st:S,f env st=.ok v st)(hv:P6 n v)(hk:n+1<=k):Mk c d k w s0 (mTup (pCons e (pCons f pNil))) env:=λ n' st D hn g=>by
 have w3:=wd3 n
 rw[WE.2.2.2.1,WE.2.2.2.2.2.2.2.1]
 refine(he n' st D hn g).mono ?_
 rintro u st' ⟨⟨md,hu⟩,D',g'⟩
 rw[WE.2.2.2.2.2.2.2.1,wpe (hf st'),WE.2.2.2.2.2.2.2.2.1]
 exact⟨szl (by simp),⟨md,(G.tup (n:=n) (by show 2<=wd n;omega) (all2 hu hv.g)).up hk⟩,D',g'⟩
theorem mk_two2 {c d k n w:Nat}{s0:S}{e f:Ev}{env:En}{v:AV}(he:Mk c d n w s0 e env)(hf:∀ st:S,f env st=.ok v st)(hv:P6 n v)(hk:n+1<=k):Mk c d k w s0 (mTup (pCons f (pCons e pNil))) env:=λ n' st D hn g=>by
 have w3:=wd3 n
 rw[WE.2.2.2.1,WE.2.2.2.2.2.2.2.1,wpe (hf st),WE.2.2.2.2.2.2.2.1]
 refine(he n' st D hn g).mono ?_
 rintro u st' ⟨⟨md,hu⟩,D',g'⟩
 rw[WE.2.2.2.2.2.2.2.2.1]
 exact⟨szl (by simp),⟨md,(G.tup (n:=n) (by show 2<=wd n;omega) (all2 hv.g hu)).up hk⟩,D',g'⟩
theorem Mk.up {c d k k2 w:Nat}{s0:S}{m:Ev}{env:En}(h:Mk c d k w s0 m env)(hk:k<=k2):Mk c d k2 w s0 m env:=λ n st D hn g=>(h n st D hn g).mono λ v s' ⟨o,D',g'⟩=>⟨o.up hk,D',g'⟩
theorem cut_len6 {α:Type}(xs:List α){a b:Int}(h0:0<=a)(h1:0<=b):(cutA xs (some a) (some b)).length<=(b - a).toNat:=by
 obtain⟨a,rfl⟩:∃ m:Nat,a=m:=⟨a.toNat,by omega⟩
 obtain⟨b,rfl⟩:∃ m:Nat,b=m:=⟨b.toNat,by omega⟩
 unfold cutA
 rw[HT.sIx_nat,HT.sIx_nat,List.length_take,List.length_drop]
 omega
theorem Tv.up {n m N:Nat}{e:Ev}{env:En}(h:Tv n N e env)(k:n<=m):Tv m N e env:=λ st=>by
 obtain⟨xs,a,b,c⟩:=h st
 exact⟨xs,a,b,λ x hx=>(c x hx).up k⟩
theorem tv_one {n:Nat}{m:Ev}{env:En}{v:AV}(h:∀ st:S,m env st=.ok v st)(hv:P6 n v):Tv n 1 (mTup (pCons m pNil)) env:=λ st=>by
 refine⟨[v],tup_ok (vs:=[v]) ?_ (by simp),by simp,λ x hx=>by rw[List.mem_singleton.mp hx];exact hv⟩
 unfold pCons pNil;rw[h st];rfl
theorem tup2_ok {a b:Ev}{env:En}{s:S}{v w:AV}(h:a env s=.ok v s)(k:b env s=.ok w s):mTup (pCons a (pCons b pNil)) env s=.ok (.tup [v,w]) s:=by
 refine tup_ok (vs:=[v,w]) ?_ (by simp)
 unfold pCons pNil;rw[h,bind_ok',k];rfl
theorem tup3_ok {a b c:Ev}{env:En}{s:S}{v w u:AV}(h:a env s=.ok v s)(k:b env s=.ok w s)(l:c env s=.ok u s):mTup (pCons a (pCons b (pCons c pNil))) env s=.ok (.tup [v,w,u]) s:=by
 refine tup_ok (vs:=[v,w,u]) ?_ (by simp)
 unfold pCons pNil;rw[h,bind_ok',k,bind_ok',l];rfl
theorem pow6 {env:En}(st:S):mBin opPow (mc (.int 10)) (mc (.int 6)) env st=.ok (.int 1000000) st:=by
 refine bin_ok rfl rfl ?_
 show(if CPow 10 6 then R.ok (AV.int ((10:Int) ^ (6:Int).toNat)) st else .bad)=_
 rw[if_pos (by decide)];rfl
abbrev e6 (d:Nat)(xs:List AV)(at_:Int)(x3:Option AV)(u p:AV):En:=[some (.ref d),some (.tup xs),some (.int at_),x3,some u,some p]
theorem rates_wp {c d n:Nat}{s:S}(D:Dr c d n s)(hn:n+10<=900000000){ps:List (AV × AV)}(h2:2<=ps.length)(h4:ps.length<=4)(hp:∀ r∈ps,P6 1 r.1/\P6 1 r.2):(f__law_bent_rates [.ref d,.tup (ps.map tp2)] s).wp λ v s'=>Od c d s' 5 v/\Dr c d (n+10) s'/\Gk c d s s':=by
 unfold f__law_bent_rates b__law_bent_rates
 refine fn2w' ?_
 refine seq_step λ K hK=>?_
 simp only[↓WS,↓WE,↓WV,Lq,len_sz,UU,Nat.reduceSub,↓reduceIte,↓wpe (lenT (xs:=ps.map tp2)),List.length_map]
 refine(take_wp D (by omega) (by omega) (fit9 (by omega) (by omega))).mono ?_
 rintro _ s1 ⟨at_,rfl,a0,a1,D1,K1⟩
 rw[hK]
 clear hK K
 have G1:=K1.gk
 clear K1 D
 obtain⟨m,rfl⟩:∃ m:Nat,at_=m:=⟨at_.toNat,by omega⟩
 have hm:m < ps.length:=by omega
 refine seq_step λ K hK=>?_
 have ei:∀ (st:S),opIx (.tup (ps.map tp2)) (.int m) st=.ok (tp2 ps[m]) st:=λ st=>by
  show(need (atI (ps.map tp2) m) λ v=>R.ok v st)=_
  rw[atI_nat (v:=tp2 ps[m]) (by rw[List.getElem?_map,List.getElem?_eq_getElem hm];rfl)];rfl
 rw[WS.2.2.2.2.2.1,wpe (bin_ok (v:=.tup (ps.map tp2)) (v2:=.int m) rfl rfl (ei s1))]
 show((gT 2 (gCons' (gN 4) (gCons' (gN 5) gNil')) (.tup [ps[m].1,ps[m].2]) _ s1)).wp _ _
 walk_at "w"
 rw[hK]
 clear hK K
 have hu:=(hp ps[m] (List.getElem_mem hm)).1
 have hq:=(hp ps[m] (List.getElem_mem hm)).2
 have hx:∀ x∈ps.map tp2,P6 2 x:=λ x hx=>by
  obtain⟨r,hr,rfl⟩:=List.mem_map.mp hx
  exact p2 (hp r hr).1 (hp r hr).2
 have hl:(ps.map tp2).length=ps.length:=List.length_map _
 obtain⟨ql,hql,eql⟩:=last_tp (ps:=ps) (by rintro rfl;simp at h2)
 have hqp:=(hp ql hql).2
 have elast:∀ st:S,opIx (.tup (ps.map tp2)) (.int (-1)) st=.ok (tp2 ql) st:=λ st=>by
  show(need (atI (ps.map tp2) (-1)) λ v=>R.ok v st)=_
  rw[at_last _ .non (by intro h;rw[List.map_eq_nil_iff]at h;subst h;simp at h2),eql];rfl
 show(sSeq _ _ (e6 d (ps.map tp2) m none ps[m].1 ps[m].2) s1).wp _ _
 generalize hU:ps[m].1=u at *
 generalize hP:ps[m].2=p at *
 have v1:∀ x3,Tv 2 ps.length (mv 1) (e6 d (ps.map tp2) m x3 u p):=λ x3=>tv_var (λ _=>rfl) (by omega) hx
 have pA:∀ x3,Tv 2 m (mSl (mv 1) oN (oS (mv 2))) (e6 d (ps.map tp2) m x3 u p):=λ x3=>tv_sl (v1 x3) (λ _=>rfl) (λ _=>rfl) (l:=none) (h:=some (m:Int)) λ xs _=>by have:=cut_to xs (a:=(m:Int)) (by omega);omega
 have pB:∀ x3,Tv 2 (ps.length - (m+1)) (mSl (mv 1) (oS (mBin opAddT (mv 2) (mc (.int 1)))) oN) (e6 d (ps.map tp2) m x3 u p):=λ x3=>tv_sl (v1 x3) (λ _=>rfl) (λ _=>rfl) (l:=some ((m:Int)+1)) (h:=none) λ xs hxs=>by have:=cut_from xs (a:=(m:Int)+1) (by omega);omega
 have pC:∀ x3,Tv 2 1 (mSl (mv 1) (oS (mv 2)) (oS (mBin opAddT (mv 2) (mc (.int 1))))) (e6 d (ps.map tp2) m x3 u p):=λ x3=>tv_sl (v1 x3) (λ _=>rfl) (λ _=>rfl) (l:=some (m:Int)) (h:=some ((m:Int)+1)) λ xs hxs=>by have:=cut_len6 xs (a:=(m:Int)) (b:=(m:Int)+1) (by omega) (by omega);omega
 have pD:∀ x3,Tv 2 (ps.length - m) (mSl (mv 1) (oS (mv 2)) oN) (e6 d (ps.map tp2) m x3 u p):=λ x3=>tv_sl (v1 x3) (λ _=>rfl) (λ _=>rfl) (l:=some (m:Int)) (h:=none) λ xs hxs=>by have:=cut_from xs (a:=(m:Int)) (by omega);omega
 have pL:∀ x3,Tv 2 1 (mSl (mv 1) (oS (mUn opNeg (mc (.int 1)))) oN) (e6 d (ps.map tp2) m x3 u p):=λ x3=>tv_sl (v1 x3) (λ _=>rfl) (λ _=>rfl) (l:=some (-1)) (h:=none) λ xs hxs=>cut_end xs
 have pI1:∀ x3,Tv 2 3 (mSl (mv 1) oN (oS (mUn opNeg (mc (.int 1))))) (e6 d (ps.map tp2) m x3 u p):=λ x3=>tv_sl (v1 x3) (λ _=>rfl) (λ _=>rfl) (l:=none) (h:=some (-1)) λ xs hxs=>by rw[cut_last,List.length_dropLast];omega
 have pF:∀ x3,Tv 2 1 (mSl (mv 1) oN (oS (mc (.int 1)))) (e6 d (ps.map tp2) m x3 u p):=λ x3=>tv_sl (v1 x3) (λ _=>rfl) (λ _=>rfl) (l:=none) (h:=some 1) λ xs hxs=>cut_to xs (a:=1) (by decide)
 have pS:∀ x3,Tv 2 ps.length (mSl (mv 1) (oS (mc (.int 1))) oN) (e6 d (ps.map tp2) m x3 u p):=λ x3=>tv_sl (v1 x3) (λ _=>rfl) (λ _=>rfl) (l:=some 1) (h:=none) λ xs hxs=>Nat.le_trans (cut_le xs _ _) hxs
 have pR:∀ x3,Tv 2 ps.length (mRevT (mv 1) (mUn opNeg (mc (.int 1)))) (e6 d (ps.map tp2) m x3 u p):=λ x3 st=>⟨(ps.map tp2).reverse,rfl,by rw[List.length_reverse];omega,λ x h=>hx x (List.mem_reverse.mp h)⟩
 have pX:∀ x3,Tv 1 2 (mBin opIx (mv 1) (mv 2)) (e6 d (ps.map tp2) m x3 u p):=λ x3 st=>⟨[u,p],by rw[bin_ok (v:=.tup (ps.map tp2)) (v2:=.int m) rfl rfl (ei st)];rw[<-hU,<-hP];rfl,by simp,all2 hu hq⟩
 refine seq_step λ K hK=>?_
 have M1:MkL c d 5 (0+(0+(0+(0+(0+0))))) 5 s1 (mNew (lLst (pCons (mRevT (mv 1) (mUn opNeg (mc (.int 1)))) (pCons (mSl (mv 1) (oS (mc (.int 1))) oN) (pCons (mBin opAddT (mv 1) (mSl (mv 1) (oS (mUn opNeg (mc (.int 1)))) oN)) (pCons (mNew (gOp qList (lIts (mv 1)))) (pCons (mBin opAddT (mBin opAddT (mSl (mv 1) oN (oS (mv 2))) (mTup (pCons (mNew (gOp qList (lIts (mBin opIx (mv 1) (mv 2))))) pNil))) (mSl (mv 1) (oS (mBin opAddT (mv 2) (mc (.int 1)))) oN)) pNil))))))) (e6 d (ps.map tp2) m none u p):=
  mkl_new (mks_cons (mk_tv (pR _) (by show ps.length<=5;omega) (by decide)) (mks_cons (mk_tv (pS _) (by show ps.length<=5;omega) (by decide)) (mks_cons (mk_tv (tv_add (v1 _) (pL _) (by omega)) (by show ps.length+1<=5;omega) (by decide)) (mks_cons (mk_list (v1 _) (by show ps.length<=5;omega) (by decide)) (mks_cons (mk_mid (pA _) (pB _) (mk_list (pX _) (by show 2<=3;omega) (by decide)) (by show m+1+(ps.length - (m+1))<=5;omega) (by decide)) mks_nil))))) (by decide)
 rw[WS.2.1]
 refine(M1 _ s1 D1 (by omega) (Gk.refl c d s1)).mono ?_
 rintro _ s2 ⟨j2,ys2,rfl,l2,o2,D2,g2⟩
 rw[hK]
 clear hK K M1
 have G2:=G1.trans g2
 show(sSeq _ _ (e6 d (ps.map tp2) m (some (.ref j2)) u p) s2).wp _ _
 refine seq_step λ K hK=>?_
 have M2:MkL c d 5 (0+(1+(0+0))) (5+2) s2 (mBin opAddT (mv 3) (mNew (lLst (pCons (mBin opAddT (mBin opAddT (mSl (mv 1) oN (oS (mv 2))) (mTup (pCons (mTup (pCons (mCall 1 f__law_odd06 (pCons (mv 0) pNil)) (pCons (mv 5) pNil))) pNil))) (mSl (mv 1) (oS (mBin opAddT (mv 2) (mc (.int 1)))) oN)) (pCons (mBin opAddT (mBin opAddT (mSl (mv 1) oN (oS (mv 2))) (mSl (mv 1) (oS (mv 2)) (oS (mBin opAddT (mv 2) (mc (.int 1)))))) (mSl (mv 1) (oS (mv 2)) oN)) pNil))))) (e6 d (ps.map tp2) m (some (.ref j2)) u p):=
  mkl_add (mkl_var o2 l2 λ _=>rfl) (mkl_new (mks_cons (mk_mid (n:=4) ((pA _).up (by decide)) ((pB _).up (by decide)) (mk_two1 (n:=3) (mk_odd (w:=0) (λ _=>rfl) (by decide)) (λ _=>rfl) (hq.up (by decide)) (by decide)) (by show m+1+(ps.length - (m+1))<=5;omega) (by decide)) (mks_cons (mk_tv (tv_add (tv_add (pA _) (pC _) (by omega)) (pD _) (by omega)) (by show m+1+(ps.length - m)<=5;omega) (by decide)) mks_nil)) (by decide)) (by decide)
 rw[WS.2.1]
 refine(M2 _ s2 D2 (by omega) (Gk.refl c d s2)).mono ?_
 rintro _ s3 ⟨j3,ys3,rfl,l3,o3,D3,g3⟩
 rw[hK]
 clear hK K M2
 have G3:=G2.trans g3
 show(sSeq _ _ (e6 d (ps.map tp2) m (some (.ref j3)) u p) s3).wp _ _
 have p10:P6 1 (.int 1000000):=pI 1000000
 have eX:∀ (x3:Option AV) (st:S),mTup (pCons (mBin opPow (mc (.int 10)) (mc (.int 6))) (pCons (mBin opIx (mBin opIx (mv 1) (mUn opNeg (mc (.int 1)))) (mc (.int 1))) pNil)) (e6 d (ps.map tp2) m x3 u p) st=.ok (.tup [.int 1000000,ql.2]) st:=λ x3 st=>tup2_ok (pow6 st) (bin_ok (bin_ok (v:=.tup (ps.map tp2)) (v2:=.int (-1)) rfl rfl (elast st)) rfl rfl)
 have eY:∀ (x3:Option AV) (st:S),mTup (pCons (mBin opPow (mc (.int 10)) (mc (.int 6))) (pCons (mv 5) pNil)) (e6 d (ps.map tp2) m x3 u p) st=.ok (.tup [.int 1000000,p]) st:=λ x3 st=>tup2_ok (pow6 st) rfl
 refine seq_step λ K hK=>?_
 have M3:MkL c d 5 (0+(1+(0+0))) (5+2+2) s3 (mBin opAddT (mv 3) (mNew (lLst (pCons (mBin opAddT (mBin opAddT (mSl (mv 1) oN (oS (mv 2))) (mTup (pCons (mTup (pCons (mv 4) (pCons (mCall 1 f__law_odd06 (pCons (mv 0) pNil)) pNil))) pNil))) (mSl (mv 1) (oS (mBin opAddT (mv 2) (mc (.int 1)))) oN)) (pCons (mBin opAddT (mSl (mv 1) oN (oS (mUn opNeg (mc (.int 1))))) (mTup (pCons (mTup (pCons (mBin opPow (mc (.int 10)) (mc (.int 6))) (pCons (mBin opIx (mBin opIx (mv 1) (mUn opNeg (mc (.int 1)))) (mc (.int 1))) pNil))) pNil))) pNil))))) (e6 d (ps.map tp2) m (some (.ref j3)) u p):=
  mkl_add (mkl_var o3 l3 λ _=>rfl) (mkl_new (mks_cons (mk_mid (n:=4) ((pA _).up (by decide)) ((pB _).up (by decide)) (mk_two2 (n:=3) (mk_odd (w:=0) (λ _=>rfl) (by decide)) (λ _=>rfl) (hu.up (by decide)) (by decide)) (by show m+1+(ps.length - (m+1))<=5;omega) (by decide)) (mks_cons (mk_tv (tv_add (pI1 _) (tv_one (eX _) (p2 p10 hqp)) (by decide)) (by decide) (by decide)) mks_nil)) (by decide)) (by decide)
 rw[WS.2.1]
 refine(M3 _ s3 D3 (by omega) (Gk.refl c d s3)).mono ?_
 rintro _ s4 ⟨j4,ys4,rfl,l4,o4,D4,g4⟩
 rw[hK]
 clear hK K M3
 have G4:=G3.trans g4
 show(sRet _ (e6 d (ps.map tp2) m (some (.ref j4)) u p) s4).wp _ _
 have M4:Mk c d 5 (0+(0+(0+(0+0)))+1) s4 (mBin opIx (mBin opAddT (mv 3) (mNew (lLst (pCons (mBin opAddT (mBin opAddT (mSl (mv 1) oN (oS (mv 2))) (mTup (pCons (mTup (pCons (mBin opPow (mc (.int 10)) (mc (.int 6))) (pCons (mv 5) pNil))) pNil))) (mSl (mv 1) (oS (mBin opAddT (mv 2) (mc (.int 1)))) oN)) (pCons (mSl (mv 1) oN (oS (mc (.int 1)))) (pCons (mSl (mv 1) (oS (mUn opNeg (mc (.int 1)))) oN) pNil)))))) (mCall 2 f__law_take (pCons (mv 0) (pCons (mc (.int 12)) pNil)))) (e6 d (ps.map tp2) m (some (.ref j4)) u p):=
  mk_ix (mkl_add (mkl_var o4 l4 λ _=>rfl) (mkl_new (mks_cons (mk_mid (pA _) (pB _) (mk_pure (eY _) (p2 p10 hq)) (by show m+1+(ps.length - (m+1))<=5;omega) (by decide)) (mks_cons (mk_tv (pF _) (by decide) (by decide)) (mks_cons (mk_tv (pL _) (by decide) (by decide)) mks_nil))) (by decide)) (by decide)) rfl (by decide) (by decide) λ _=>rfl
 rw[WS.2.2.1]
 refine(M4 _ s4 D4 (by omega) (Gk.refl c d s4)).mono ?_
 rintro v s5 ⟨o,D5,g5⟩
 exact⟨o,D5.mono (by omega),G4.trans g5⟩
def sgnT:Str:=" !#$&'()*+,-./0123456789:;<=>?@ABCDEFGHIJKLMNOPQRSTUVWXYZ[]^_abcdefghijklmnopqrstuvwxyz{|}~"
theorem sgn_ok:(sgnT.cps.toList.all λ c=>decide (c < 128))=true/\sgnT.length<=200/\1<=sgnT.length:=by decide +kernel
theorem sgn_ix {j:Int}(h0:0<=j)(h1:j < sgnT.length)(s:S):∃ u,opIx (.str sgnT) (.int j) s=.ok (.str u) s/\Asc u 1:=by
 obtain⟨i,rfl⟩:∃ i:Nat,j=i:=⟨j.toNat,by omega⟩
 have hi:i < sgnT.cps.toList.length:=by
  have:sgnT.cps.toList.length=sgnT.length:=by simp[Str.length]
  omega
 refine⟨⟨#[sgnT.cps.toList[i]]⟩,?_,λ c hc=>?_,Nat.le_refl _⟩
 ·show(if sgnT.length<=sizeLine then need (atI sgnT.cps.toList i) λ c=>R.ok (AV.str ⟨#[c]⟩) s else .bad)=_
  rw[if_pos (szl (by have:=sgn_ok.2.1;omega)),atI_nat (List.getElem?_eq_getElem hi)];rfl
 ·simp at hc
  subst hc
  exact of_decide_eq_true (List.all_eq_true.mp sgn_ok.1 _ (by simp))
theorem wp_slS (m:Ev)(lo hi:Eo)(env:En)(s:S)(Q:AV->S->Prop):(mSlS m lo hi env s).wp Q=(m env s).wp λ v s1=>(lo env s1).wp λ l s2=>(hi env s2).wp λ h s3=>(opSlS v l h s3).wp Q:=by
 unfold mSlS
 rw[wp_bind];congr 1;funext v s1;rw[wp_bind];congr 1;funext v s1;rw[wp_bind]
theorem signed_wp {c d n:Nat}{s:S}(D:Dr c d n s)(hn:n<=900000000){t:Str}(ht:Asc t 8):(f__law_signed [.ref d,.str t] s).wp λ v s'=>∃ u,v=.str u/\Asc u 20/\Dr c d (n+3) s'/\Kp c d s s':=by
 have hz:t.length<=sizeLine:=ht.small (by decide)
 have h8:=ht.2
 have sl:∀ (l h:Option Int) (st:S),opSlS (.str t) l h st=.ok (.str (Txt.slice t l h)) st:=λ l h st=>if_pos hz
 have sz:sgnT.length<=sizeLine:=szl (by have:=sgn_ok.2.1;omega)
 have s1:=sgn_ok.2.1
 have s2:=sgn_ok.2.2
 unfold f__law_signed b__law_signed
 refine fn2w' ?_
 show(sSeq (sSet 2 (mc (.str sgnT))) _ _ _).wp _ _
 simp only[↓WS,↓WE,↓WV,Lq,len_sz,UU,Nat.reduceSub,↓reduceIte,↓wpe (len_wp hz),↓wpe (len_wp sz),↓wp_slS,↓wpe (sl _ _ _)]
 refine(take_wp D (by omega) (by omega) (fit9 (by omega) (by omega))).mono ?_
 rintro _ s1 ⟨a,rfl,a0,a1,D1,K1⟩
 simp only[↓WS,↓WE,↓WV,Lq,len_sz,UU,Nat.reduceSub,↓reduceIte,↓wpe (len_wp hz),↓wpe (len_wp sz),↓wp_slS,↓wpe (sl _ _ _)]
 refine(take_wp D1 (by omega) (by omega) (fit9 (by omega) (by omega))).mono ?_
 rintro _ s2 ⟨b,rfl,b0,b1,D2,K2⟩
 obtain⟨u,eu,hu⟩:=sgn_ix b0 b1 s2
 rw[wpe eu]
 have k1:=(ht.slice none (some a)).app hu
 rw[wpe (add_str (by have:=(ht.slice none (some a)).2;have:=hu.2;omega))]
 try simp only[↓WS,↓WE,↓WV,Lq,len_sz,UU,Nat.reduceSub,↓reduceIte,↓wpe (sl _ _ _)]
 refine(take_wp D2 (by omega) (by omega) (fit9 (by omega) (by omega))).mono ?_
 rintro _ s3 ⟨e,rfl,e0,e1,D3,K3⟩
 simp only[↓WS,↓WE,↓WV,Lq,len_sz,UU,Nat.reduceSub,↓reduceIte,↓wpe (sl _ _ _)]
 have k2:=k1.app (ht.slice (some (a+e)) none)
 rw[wpe (add_str (by have:=k1.2;have:=(ht.slice (some (a+e)) none).2;omega))]
 exact⟨_,rfl,k2.mono (by decide),D3,(K1.trans K2).trans K3⟩
theorem mk_3a {c d k n w:Nat}{s0:S}{e f g:Ev}{env:En}{v u:AV}(he:Mk c d n w s0 e env)(hf:∀ st:S,f env st=.ok v st)(hg:∀ st:S,g env st=.ok u st)(hv:P6 n v)(hu:P6 n u)(hk:n+1<=k):Mk c d k w s0 (mTup (pCons e (pCons f (pCons g pNil)))) env:=λ n' st D hn gg=>by
 rw[WE.2.2.2.1,WE.2.2.2.2.2.2.2.1]
 refine(he n' st D hn gg).mono ?_
 rintro x st' ⟨⟨md,hx⟩,D',g'⟩
 rw[WE.2.2.2.2.2.2.2.1,wpe (hf st'),WE.2.2.2.2.2.2.2.1,wpe (hg st'),WE.2.2.2.2.2.2.2.2.1]
 exact⟨szl (by simp),⟨md,(G.tup (n:=n) (by exact wd3 n) (all3 hx hv.g hu.g)).up hk⟩,D',g'⟩
theorem mk_3b {c d k n w:Nat}{s0:S}{e f g:Ev}{env:En}{v u:AV}(he:Mk c d n w s0 e env)(hf:∀ st:S,f env st=.ok v st)(hg:∀ st:S,g env st=.ok u st)(hv:P6 n v)(hu:P6 n u)(hk:n+1<=k):Mk c d k w s0 (mTup (pCons f (pCons e (pCons g pNil)))) env:=λ n' st D hn gg=>by
 rw[WE.2.2.2.1,WE.2.2.2.2.2.2.2.1,wpe (hf st),WE.2.2.2.2.2.2.2.1]
 refine(he n' st D hn gg).mono ?_
 rintro x st' ⟨⟨md,hx⟩,D',g'⟩
 rw[WE.2.2.2.2.2.2.2.1,wpe (hg st'),WE.2.2.2.2.2.2.2.2.1]
 exact⟨szl (by simp),⟨md,(G.tup (n:=n) (by exact wd3 n) (all3 hv.g hx hu.g)).up hk⟩,D',g'⟩
theorem mk_3c {c d k n w:Nat}{s0:S}{e f g:Ev}{env:En}{v u:AV}(he:Mk c d n w s0 e env)(hf:∀ st:S,f env st=.ok v st)(hg:∀ st:S,g env st=.ok u st)(hv:P6 n v)(hu:P6 n u)(hk:n+1<=k):Mk c d k w s0 (mTup (pCons f (pCons g (pCons e pNil)))) env:=λ n' st D hn gg=>by
 rw[WE.2.2.2.1,WE.2.2.2.2.2.2.2.1,wpe (hf st),WE.2.2.2.2.2.2.2.1,wpe (hg st),WE.2.2.2.2.2.2.2.1]
 refine(he n' st D hn gg).mono ?_
 rintro x st' ⟨⟨md,hx⟩,D',g'⟩
 rw[WE.2.2.2.2.2.2.2.2.1]
 exact⟨szl (by simp),⟨md,(G.tup (n:=n) (by exact wd3 n) (all3 hv.g hu.g hx)).up hk⟩,D',g'⟩
theorem mk_pre {c d k n w NB:Nat}{s0:S}{B e:Ev}{env:En}(hB:Tv n NB B env)(he:Mk c d n w s0 e env)(hl:1+NB<=wd n)(hk:n+1<=k):Mk c d k w s0 (mBin opAddT (mTup (pCons e pNil)) B) env:=λ n' st D hn g=>by
 have w12:=wd_12 n
 rw[WE.2.1,WE.2.2.2.1,WE.2.2.2.2.2.2.2.1]
 refine(he n' st D hn g).mono ?_
 rintro v st' ⟨⟨md,hv⟩,D',g'⟩
 obtain⟨bs,eb,b1,b2⟩:=hB st'
 rw[WE.2.2.2.2.2.2.2.2.1]
 refine⟨szl (by simp),?_⟩
 rw[wpe eb,wpe (addT_tup (by simp;omega))]
 refine⟨⟨md,(G.tup (n:=n) (by simp;omega) λ x hx=>?_).up hk⟩,D',g'⟩
 rcases List.mem_append.mp hx with hx|hx
 ·rw[List.mem_singleton.mp hx];exact hv
 ·exact(b2 x hx).g
abbrev e7 (d:Nat)(row:AV)(x2 x3:Option AV)(k q p:AV):En:=[some (.ref d),some row,x2,x3,some k,some q,some p]
theorem asc_K:Asc "Of" 20/\Asc "" 20/\Asc "x" 1:=by
 have f:∀ t∈(["Of",""]:List Str),(t.cps.toList.all λ c=>decide (c < 128))=true/\t.length<=20:=by decide +kernel
 have g:(("x":Str).cps.toList.all λ c=>decide (c < 128))=true/\("x":Str).length<=1:=by decide +kernel
 have h:∀ t∈(["Of",""]:List Str),Asc t 20:=λ t ht=>⟨λ c hc=>of_decide_eq_true (List.all_eq_true.mp (f t ht).1 c hc),(f t ht).2⟩
 exact⟨h _ (by simp),h _ (by simp),λ c hc=>of_decide_eq_true (List.all_eq_true.mp g.1 c hc),g.2⟩
theorem bent_row_wp {c d n:Nat}{s:S}(D:Dr c d n s)(hn:n+20<=900000000){k q:Str}{p:AV}(R:Rk6 k q p):(f__law_bent_row [.ref d,.tup [.str k,.str q,p]] s).wp λ v s'=>Od c d s' 6 v/\Dr c d (n+20) s'/\Gk c d s s':=by
  have hk:∀ n,P6 n (.str k):=λ n=>p_str R.kd n
  have hq:∀ n,P6 n (.str q):=λ n=>p_str (R.nm.2.mono (by decide)) n
  have hp:=R.pl
  unfold f__law_bent_row b__law_bent_row
  refine fn2w' ?_
  refine seq_step λ K hK=>?_
  walk_at "w"
  rw[hK]
  clear hK K
  show(sSeq _ _ (e7 d (.tup [.str k,.str q,p]) none none (.str k) (.str q) p) s).wp _ _
  refine seq_step λ K hK=>?_
  walk_at "w"
  refine(take_wp D (by omega) (by omega) (fit9 (by omega) (by omega))).mono ?_
  rintro _ s1 ⟨a,rfl,a0,a1,D1,K1⟩
  walk_at "w"
  split
  · refine(signed_wp D1 (by omega) R.nm.2).mono ?_
    rintro _ s2 ⟨u,rfl,hu,D2,K2⟩
    exact⟨((p3 (hk 3) (p_str hu 3) hp).up (by decide)).od,D2.mono (by omega),K1.gk.trans K2.gk⟩
  rw[hK]
  clear hK K
  show(sSeq _ _ (e7 d (.tup [.str k,.str q,p]) none none (.str k) (.str q) p) s1).wp _ _
  have G1:=K1.gk
  clear K1 D
  have rest:∀ s2,Dr c d (n+2) s2->Gk c d s s2->((sSeq (sSet 2 (mNew (lLst (pCons (mc (.str "of")) (pCons (mc (.str "left")) (pCons (mc (.str "steps")) (pCons (mc (.str "length")) (pCons (mc (.str "Of")) (pCons (mc (.str "")) (pCons (mc .non) pNil))))))))))
 (sSeq (sSet 3 (mNew (lLst (pCons (mTup (pCons (mBin opIx (mv 2) (mCall 2 f__law_take (pCons (mv 0) (pCons (mc (.int 7)) pNil)))) (pCons (mv 5) (pCons (mv 6) pNil)))) (pCons (mTup (pCons (mv 4) (pCons (mCall 1 f__law_odd06 (pCons (mv 0) pNil)) (pCons (mv 6) pNil)))) (pCons (mTup (pCons (mv 4) (pCons (mv 5) (pCons (mCall 1 f__law_odd06 (pCons (mv 0) pNil)) pNil)))) pNil))))))
 (sSeq (sSet 3 (mBin opAddT (mv 3) (mNew (lLst (pCons (mNew (gOp qList (lIts (mv 1)))) (pCons (mSl (mv 1) oN (oS (mc (.int 2)))) (pCons (mBin opAddT (mv 1) (mTup (pCons (mc (.int 1)) pNil))) (pCons (mTup (pCons (mv 4) (pCons (mBin opAddT (mv 5) (mc (.str "x"))) (pCons (mv 6) pNil)))) (pCons (mTup (pCons (mv 4) (pCons (mv 6) (pCons (mv 5) pNil)))) pNil)))))))))
 (sRet (mBin opIx (mBin opAddT (mv 3) (mNew (lLst (pCons (mBin opAddT (mTup (pCons (mCall 1 f__law_odd06 (pCons (mv 0) pNil)) pNil)) (mSl (mv 1) (oS (mc (.int 1))) oN)) pNil)))) (mCall 2 f__law_take (pCons (mv 0) (pCons (mc (.int 9)) pNil)))))))) (e7 d (.tup [.str k,.str q,p]) none none (.str k) (.str q) p) s2).wp (λ _ s1=>Od c d s1 6 .non/\Dr c d (n+20) s1/\Gk c d s s1) (λ v s'=>Od c d s' 6 v/\Dr c d (n+20) s'/\Gk c d s s'):=by
    intro s2 D2 G2
    obtain⟨ka,kb,kc,kd⟩:=kd_asc
    obtain⟨k5,k6,k7⟩:=asc_K
    have row3:∀ x∈[AV.str k,.str q,p],P6 3 x:=all3 (hk 3) (hq 3) hp
    have v1:∀ x2 x3,Tv 3 3 (mv 1) (e7 d (.tup [.str k,.str q,p]) x2 x3 (.str k) (.str q) p):=λ x2 x3=>tv_var (λ _=>rfl) (by simp) row3
    refine seq_step λ K hK=>?_
    have N1:MkL c d 0 (0+(0+(0+(0+(0+(0+(0+0))))))) 7 s2 (mNew (lLst (pCons (mc (.str "of")) (pCons (mc (.str "left")) (pCons (mc (.str "steps")) (pCons (mc (.str "length")) (pCons (mc (.str "Of")) (pCons (mc (.str "")) (pCons (mc .non) pNil))))))))) (e7 d (.tup [.str k,.str q,p]) none none (.str k) (.str q) p):=
      mkl_new (mks_cons (mk_pure (λ _=>rfl) (p_str ka 0)) (mks_cons (mk_pure (λ _=>rfl) (p_str kb 0)) (mks_cons (mk_pure (λ _=>rfl) (p_str kc 0)) (mks_cons (mk_pure (λ _=>rfl) (p_str kd 0)) (mks_cons (mk_pure (λ _=>rfl) (p_str k5 0)) (mks_cons (mk_pure (λ _=>rfl) (p_str k6 0)) (mks_cons (mk_pure (λ _=>rfl) (p_non 0)) mks_nil))))))) (by decide)
    rw[WS.2.1]
    refine(N1 _ s2 D2 (by omega) (Gk.refl c d s2)).mono ?_
    rintro _ s3 ⟨j3,ys3,rfl,l3,o3,D3,g3⟩
    rw[hK]
    clear hK K N1
    have G3:=G2.trans g3
    show(sSeq _ _ (e7 d (.tup [.str k,.str q,p]) (some (.ref j3)) none (.str k) (.str q) p) s3).wp _ _
    refine seq_step λ K hK=>?_
    have N2:MkL c d 6 ((0+1)+(1+(1+0))) 3 s3 (mNew (lLst (pCons (mTup (pCons (mBin opIx (mv 2) (mCall 2 f__law_take (pCons (mv 0) (pCons (mc (.int 7)) pNil)))) (pCons (mv 5) (pCons (mv 6) pNil)))) (pCons (mTup (pCons (mv 4) (pCons (mCall 1 f__law_odd06 (pCons (mv 0) pNil)) (pCons (mv 6) pNil)))) (pCons (mTup (pCons (mv 4) (pCons (mv 5) (pCons (mCall 1 f__law_odd06 (pCons (mv 0) pNil)) pNil)))) pNil))))) (e7 d (.tup [.str k,.str q,p]) (some (.ref j3)) none (.str k) (.str q) p):=
      mkl_new (mks_cons (mk_3a (n:=3) ((mk_ix (mkl_var o3 l3 λ _=>rfl) rfl (by decide) (by decide) λ _=>rfl).up (by decide)) (λ _=>rfl) (λ _=>rfl) (hq 3) hp (by decide)) (mks_cons (mk_3b (n:=3) (mk_odd (w:=0) (λ _=>rfl) (by decide)) (λ _=>rfl) (λ _=>rfl) (hk 3) hp (by decide)) (mks_cons (mk_3c (n:=3) (mk_odd (w:=0) (λ _=>rfl) (by decide)) (λ _=>rfl) (λ _=>rfl) (hk 3) (hq 3) (by decide)) mks_nil))) (by decide)
    rw[WS.2.1]
    refine(N2 _ s3 D3 (by omega) (Gk.refl c d s3)).mono ?_
    rintro _ s4 ⟨j4,ys4,rfl,l4,o4,D4,g4⟩
    rw[hK]
    clear hK K N2
    have G4:=G3.trans g4
    show(sSeq _ _ (e7 d (.tup [.str k,.str q,p]) (some (.ref j3)) (some (.ref j4)) (.str k) (.str q) p) s4).wp _ _
    refine seq_step λ K hK=>?_
    have qx:Asc (q++"x") 20:=(R.nm.2.app k7).mono (by decide)
    have ex:∀ st:S,mBin opAddT (mv 5) (mc (.str "x")) (e7 d (.tup [.str k,.str q,p]) (some (.ref j3)) (some (.ref j4)) (.str k) (.str q) p) st=.ok (.str (q++"x")) st:=λ st=>bin_ok (v:=.str q) (v2:=.str "x") rfl rfl (show opAdd (.str q) (.str "x") st=_ from add_str (by have:=R.nm.2.2;have:=k7.2;omega))
    have N3:MkL c d 6 (0+(0+(0+(0+(0+(0+0)))))) (3+5) s4 (mBin opAddT (mv 3) (mNew (lLst (pCons (mNew (gOp qList (lIts (mv 1)))) (pCons (mSl (mv 1) oN (oS (mc (.int 2)))) (pCons (mBin opAddT (mv 1) (mTup (pCons (mc (.int 1)) pNil))) (pCons (mTup (pCons (mv 4) (pCons (mBin opAddT (mv 5) (mc (.str "x"))) (pCons (mv 6) pNil)))) (pCons (mTup (pCons (mv 4) (pCons (mv 6) (pCons (mv 5) pNil)))) pNil)))))))) (e7 d (.tup [.str k,.str q,p]) (some (.ref j3)) (some (.ref j4)) (.str k) (.str q) p):=
      mkl_add (mkl_var o4 l4 λ _=>rfl) (mkl_new (mks_cons (mk_list (v1 _ _) (by decide) (by decide)) (mks_cons (mk_tv (N:=3) (tv_sl (v1 _ _) (λ _=>rfl) (λ _=>rfl) (l:=none) (h:=some 2) λ xs hxs=>Nat.le_trans (cut_le xs _ _) hxs) (by decide) (by decide)) (mks_cons (mk_tv (tv_add (v1 _ _) (tv_one (λ _=>rfl) (pI 1)) (by decide)) (by decide) (by decide)) (mks_cons (mk_pure (λ st=>tup3_ok rfl (ex st) rfl) ((p3 (hk 3) (p_str qx 3) hp).up (by decide))) (mks_cons (mk_pure (λ st=>tup3_ok rfl rfl rfl) ((p3 (hk 3) hp (hq 3)).up (by decide))) mks_nil))))) (by decide)) (by decide)
    rw[WS.2.1]
    refine(N3 _ s4 D4 (by omega) (Gk.refl c d s4)).mono ?_
    rintro _ s5 ⟨j5,ys5,rfl,l5,o5,D5,g5⟩
    rw[hK]
    clear hK K N3
    have G5:=G4.trans g5
    show(sRet _ (e7 d (.tup [.str k,.str q,p]) (some (.ref j3)) (some (.ref j5)) (.str k) (.str q) p) s5).wp _ _
    have N4:Mk c d 6 (0+(1+0)+1) s5 (mBin opIx (mBin opAddT (mv 3) (mNew (lLst (pCons (mBin opAddT (mTup (pCons (mCall 1 f__law_odd06 (pCons (mv 0) pNil)) pNil)) (mSl (mv 1) (oS (mc (.int 1))) oN)) pNil)))) (mCall 2 f__law_take (pCons (mv 0) (pCons (mc (.int 9)) pNil)))) (e7 d (.tup [.str k,.str q,p]) (some (.ref j3)) (some (.ref j5)) (.str k) (.str q) p):=
      mk_ix (mkl_add (mkl_var o5 l5 λ _=>rfl) (mkl_new (mks_cons (mk_pre (n:=3) (NB:=3) (tv_sl (v1 _ _) (λ _=>rfl) (λ _=>rfl) (l:=some 1) (h:=none) λ xs hxs=>Nat.le_trans (cut_le xs _ _) hxs) (mk_odd (w:=0) (λ _=>rfl) (by decide)) (by decide) (by decide)) mks_nil) (by decide)) (by decide)) rfl (by decide) (by decide) λ _=>rfl
    rw[WS.2.2.1]
    refine(N4 _ s5 D5 (by omega) (Gk.refl c d s5)).mono ?_
    rintro v s6 ⟨o,D6,g6⟩
    exact⟨o,D6.mono (by omega),G5.trans g6⟩
  refine seq_step λ K hK=>?_
  walk_at "w"
  split
  · rename_i hst
    refine(take_wp D1 (by omega) (by omega) (fit9 (by omega) (by omega))).mono ?_
    rintro _ s2 ⟨b,rfl,b0,b1,D2,K2⟩
    walk_at "w"
    split
    · obtain⟨ps,rfl,h2,h4,hps⟩:=R.st hst
      refine(rates_wp D2 (by omega) h2 h4 hps).mono ?_
      rintro v s3 ⟨⟨md,o⟩,D3,G3⟩
      exact⟨⟨md,G.tup (n:=5) (by show 3<=5;omega) (all3 (hk 5).g (hq 5).g o)⟩,D3.mono (by omega),(G1.trans K2.gk).trans G3⟩
    · rw[hK]
      exact rest s2 (D2.mono (by omega)) (G1.trans K2.gk)
  · rw[hK]
    exact rest s1 (D1.mono (by omega)) G1
theorem mulT_ok {v:AV}{k:Int}{s:S}(h1:2<=k)(h2:k<=1000):opMulT (.tup [v]) (.int k) s=.ok (.tup (List.replicate k.toNat [v]).flatten) s:=if_pos ⟨by simp,⟨h1,h2⟩,by simp⟩
theorem rep_len {α:Type}(v:α)(k:Nat):(List.replicate k [v]).flatten.length=k:=by simp
theorem rep_mem {α:Type}{v x:α}{k:Nat}(h:x∈(List.replicate k [v]).flatten):x=v:=by
 simp at h
 exact h.2
theorem tv_mul {n N:Nat}{m:Ev}{env:En}{v:AV}{k:Int}(h:∀ st:S,m env st=.ok (.tup [v]) st) (hv:P6 n v)(h1:2<=k)(h2:k<=1000)(hN:k.toNat<=N):Tv n N (mBin opMulT m (mc (.int k))) env:=λ st=>⟨_,bin_ok (h st) rfl (mulT_ok h1 h2),by rw[rep_len];exact hN,λ x hx=>by rw[rep_mem hx];exact hv⟩
abbrev b6 (d:Nat)(xs:List AV)(at_:Int)(row:AV)(x4 x5:Option AV):En:=[some (.ref d),some (.tup xs),some (.int at_),some row,x4,x5]
theorem asc_ab:Asc "ab" 20:=by
 have g:(("ab":Str).cps.toList.all λ c=>decide (c < 128))=true/\("ab":Str).length<=20:=by decide +kernel
 exact⟨λ c hc=>of_decide_eq_true (List.all_eq_true.mp g.1 c hc),g.2⟩
theorem bent06_wp {c d n:Nat}{s:S}(D:Dr c d n s)(hn:n<=600000000){xs:List AV}(h8:xs.length<=8)(hr:∀ x∈xs,∃ k q p,x=.tup [.str k,.str q,p]/\Rk6 k q p):(f__law_bent [.ref d,.tup xs] s).wp λ v s'=>Od c d s' 7 v/\Dr c d (n+40) s'/\Gk c d s s':=by
 have hx4:∀ x∈xs,P6 4 x:=λ x hx=>by
  obtain⟨k,q,p,rfl,R⟩:=hr x hx
  exact p3 (p_str R.kd 3) (p_str (R.nm.2.mono (by decide)) 3) R.pl
 have hx:∀ x∈xs,P6 6 x:=λ x h=>(hx4 x h).up (by decide)
 obtain⟨ka,kb,kc,kd⟩:=kd_asc
 obtain⟨_,a2,_⟩:=asc_s
 unfold f__law_bent b__law_bent
 refine fn2w' ?_
 refine seq_step λ K hK=>?_
 have ea:∀ (i j:Int) (st:S),opAddT (.int i) (.int j) st=.ok (.int (i+j)) st:=λ _ _ _=>rfl
 simp only[↓WS,↓WE,↓WV,Lq,len_sz,UU,Nat.reduceSub,↓reduceIte,↓wpe (lenT (xs:=xs)),↓wpe (ea _ _ _)]
 refine(take_wp D (by omega) (by omega) (fit9 (by omega) (by omega))).mono ?_
 rintro _ s1 ⟨at_,rfl,a0,a1,D1,K1⟩
 rw[hK]
 clear hK K
 have G1:=K1.gk
 clear K1 D
 obtain⟨m,rfl⟩:∃ m:Nat,at_=m:=⟨at_.toNat,by omega⟩
 have hm:m<=xs.length:=by omega
 refine seq_step λ K hK=>?_
 walk_at "w"
 rw[hK]
 clear hK K
 have hrow:P6 2 (.tup [.str "left",.str "a",.tup [.int 1,.int 2]]):=p3 (p_str kb 1) (p_str a2 1) (p2 (pI 1) (pI 2))
 show(sSeq _ _ (b6 d xs m (.tup [.str "left",.str "a",.tup [.int 1,.int 2]]) none none) s1).wp _ _
 generalize (AV.tup [.str "left",.str "a",.tup [.int 1,.int 2]])=row at *
 have hrow6:P6 6 row:=hrow.up (by decide)
 have v1:∀ x4 x5,Tv 6 xs.length (mv 1) (b6 d xs m row x4 x5):=λ x4 x5=>tv_var (λ _=>rfl) (Nat.le_refl _) hx
 have pA:∀ x4 x5,Tv 6 m (mSl (mv 1) oN (oS (mv 2))) (b6 d xs m row x4 x5):=λ x4 x5=>tv_sl (v1 x4 x5) (λ _=>rfl) (λ _=>rfl) (l:=none) (h:=some (m:Int)) λ ys _=>by have:=cut_to ys (a:=(m:Int)) (by omega);omega
 have pB:∀ x4 x5,Tv 6 (xs.length - (m+1)) (mSl (mv 1) (oS (mBin opAddT (mv 2) (mc (.int 1)))) oN) (b6 d xs m row x4 x5):=λ x4 x5=>tv_sl (v1 x4 x5) (λ _=>rfl) (λ _=>rfl) (l:=some ((m:Int)+1)) (h:=none) λ ys hys=>by have:=cut_from ys (a:=(m:Int)+1) (by omega);omega
 have pC:∀ x4 x5,Tv 6 1 (mSl (mv 1) (oS (mv 2)) (oS (mBin opAddT (mv 2) (mc (.int 1))))) (b6 d xs m row x4 x5):=λ x4 x5=>tv_sl (v1 x4 x5) (λ _=>rfl) (λ _=>rfl) (l:=some (m:Int)) (h:=some ((m:Int)+1)) λ ys hys=>by have:=cut_len6 ys (a:=(m:Int)) (b:=(m:Int)+1) (by omega) (by omega);omega
 have pD:∀ x4 x5,Tv 6 (xs.length - m) (mSl (mv 1) (oS (mv 2)) oN) (b6 d xs m row x4 x5):=λ x4 x5=>tv_sl (v1 x4 x5) (λ _=>rfl) (λ _=>rfl) (l:=some (m:Int)) (h:=none) λ ys hys=>by have:=cut_from ys (a:=(m:Int)) (by omega);omega
 have e1:∀ x4 x5 (st:S),mTup (pCons (mv 3) pNil) (b6 d xs m row x4 x5) st=.ok (.tup [row]) st:=λ x4 x5 st=>tup_ok (vs:=[row]) rfl (by simp)
 have pM:∀ x4 x5,Tv 6 3 (mBin opMulT (mTup (pCons (mv 3) pNil)) (mc (.int 3))) (b6 d xs m row x4 x5):=λ x4 x5=>tv_mul (e1 x4 x5) hrow6 (by decide) (by decide) (by decide)
 have e2:∀ x4 x5 (st:S),mTup (pCons (mTup (pCons (mc (.str "of")) (pCons (mc (.str "ab")) (pCons (mTup (pCons (mc (.int 1)) (pCons (mc (.int 60)) pNil))) pNil)))) pNil) (b6 d xs m row x4 x5) st=.ok (.tup [.tup [.str "of",.str "ab",.tup [.int 1,.int 60]]]) st:=λ x4 x5 st=>by
  refine tup_ok (vs:=[.tup [.str "of",.str "ab",.tup [.int 1,.int 60]]]) ?_ (by simp)
  unfold pCons
  rw[show mTup (λ env s=>(mc (.str "of") env s).bind λ v s1=>((λ env s=>(mc (.str "ab") env s).bind λ v s1=>((λ env s=>(mTup (λ env s=>(mc (.int 1) env s).bind λ v s1=>((λ env s=>(mc (.int 60) env s).bind λ v s1=>(pNil env s1).bind λ vs s2=>.ok (v :: vs) s2) env s1).bind λ vs s2=>.ok (v :: vs) s2) env s).bind λ v s1=>(pNil env s1).bind λ vs s2=>.ok (v :: vs) s2) env s1).bind λ vs s2=>.ok (v :: vs) s2) env s1).bind λ vs s2=>.ok (v :: vs) s2) (b6 d xs m row x4 x5) st=.ok (.tup [.str "of",.str "ab",.tup [.int 1,.int 60]]) st from tup3_ok rfl rfl (tup2_ok rfl rfl)]
  rfl
 have hof:P6 6 (.tup [.str "of",.str "ab",.tup [.int 1,.int 60]]):=(p3 (n:=1) (p_str ka 1) (p_str asc_ab 1) (p2 (pI 1) (pI 60))).up (by decide)
 have pN:∀ x4 x5,Tv 6 (xs.length+9) (mBin opAddT (mv 1) (mBin opMulT (mTup (pCons (mTup (pCons (mc (.str "of")) (pCons (mc (.str "ab")) (pCons (mTup (pCons (mc (.int 1)) (pCons (mc (.int 60)) pNil))) pNil)))) pNil)) (mc (.int 9)))) (b6 d xs m row x4 x5):=λ x4 x5=>tv_add (v1 x4 x5) (tv_mul (e2 x4 x5) hof (by decide) (by decide) (by decide)) (by omega)
 refine seq_step λ K hK=>?_
 have M1:MkL c d 7 (0+(0+(0+(0+0)))) 4 s1 (mNew (lLst (pCons (mNew (gOp qList (lIts (mv 1)))) (pCons (mBin opAddT (mSl (mv 1) oN (oS (mv 2))) (mSl (mv 1) (oS (mBin opAddT (mv 2) (mc (.int 1)))) oN)) (pCons (mBin opAddT (mBin opAddT (mSl (mv 1) oN (oS (mv 2))) (mSl (mv 1) (oS (mv 2)) (oS (mBin opAddT (mv 2) (mc (.int 1)))))) (mSl (mv 1) (oS (mv 2)) oN)) (pCons (mBin opAddT (mv 1) (mBin opMulT (mTup (pCons (mv 3) pNil)) (mc (.int 3)))) pNil)))))) (b6 d xs m row none none):=
  mkl_new (mks_cons (mk_list (v1 _ _) (by show xs.length<=12;omega) (by decide)) (mks_cons (mk_tv (tv_add (pA _ _) (pB _ _) (by omega)) (by show m+(xs.length - (m+1))<=12;omega) (by decide)) (mks_cons (mk_tv (tv_add (tv_add (pA _ _) (pC _ _) (by omega)) (pD _ _) (by omega)) (by show m+1+(xs.length - m)<=12;omega) (by decide)) (mks_cons (mk_tv (tv_add (v1 _ _) (pM _ _) (by omega)) (by show xs.length+3<=12;omega) (by decide)) mks_nil)))) (by decide)
 rw[WS.2.1]
 refine(M1 _ s1 D1 (by omega) (Gk.refl c d s1)).mono ?_
 rintro _ s2 ⟨j2,ys2,rfl,l2,o2,D2,g2⟩
 rw[hK]
 clear hK K M1
 have G2:=G1.trans g2
 show(sSeq _ _ (b6 d xs m row (some (.ref j2)) none) s2).wp _ _
 refine seq_step λ K hK=>?_
 have T8:∀ x4 x5,Mk c d 7 1 s2 (mSl (mBin opAddT (mv 1) (mBin opMulT (mTup (pCons (mTup (pCons (mc (.str "of")) (pCons (mc (.str "ab")) (pCons (mTup (pCons (mc (.int 1)) (pCons (mc (.int 60)) pNil))) pNil)))) pNil)) (mc (.int 9)))) oN (oS (mBin opAddT (mc (.int 8)) (mCall 2 f__law_take (pCons (mv 0) (pCons (mc (.int 2)) pNil)))))) (b6 d xs m row x4 x5):=λ x4 x5 n' st D' hn' g'=>by
  obtain⟨ws,ew,w1,w2⟩:=pN x4 x5 st
  rw[WE.2.2.2.2.2.2.2.2.2.2.2.2.2.2.2.2.2.2.2.2.2.2.2.2.2.2.2.1,wpe ew]
  walk_at "w"
  refine(take_wp D' (by omega) (by omega) (fit9 (by omega) (by omega))).mono ?_
  rintro _ s9 ⟨r,rfl,r0,r1,D9,K9⟩
  rw[wpe (ea _ _ _)]
  have hc:=cut_to ws (a:=8+r) (by omega)
  exact⟨((p_tup (n:=6) (xs:=cutA ws none (some (8+r))) (by show _<=12;omega) λ x hx=>w2 x (cutA_mem hx))).od,D9,K9.gk⟩
 have M2:MkL c d 7 (0+(1+(1+0))) (4+2) s2 (mBin opAddT (mv 4) (mNew (lLst (pCons (mSl (mBin opAddT (mv 1) (mBin opMulT (mTup (pCons (mTup (pCons (mc (.str "of")) (pCons (mc (.str "ab")) (pCons (mTup (pCons (mc (.int 1)) (pCons (mc (.int 60)) pNil))) pNil)))) pNil)) (mc (.int 9)))) oN (oS (mBin opAddT (mc (.int 8)) (mCall 2 f__law_take (pCons (mv 0) (pCons (mc (.int 2)) pNil)))))) (pCons (mCall 1 f__law_odd06 (pCons (mv 0) pNil)) pNil))))) (b6 d xs m row (some (.ref j2)) none):=
  mkl_add (mkl_var o2 l2 λ _=>rfl) (mkl_new (mks_cons (T8 _ _) (mks_cons (mk_odd (w:=0) (λ _=>rfl) (by decide)) mks_nil)) (by decide)) (by decide)
 rw[WS.2.1]
 refine(M2 _ s2 D2 (by omega) (Gk.refl c d s2)).mono ?_
 rintro _ s3 ⟨j3,ys3,rfl,l3,o3,D3,g3⟩
 rw[hK]
 clear hK K M2 T8
 have G3:=G2.trans g3
 show(sSeq _ _ (b6 d xs m row (some (.ref j3)) none) s3).wp _ _
 refine seq_step λ K hK=>?_
 have T9:∀ x4 x5,Mk c d 7 1 s3 (mBin opAddT (mBin opMulT (mTup (pCons (mv 3) pNil)) (mBin opAddT (mc (.int 3)) (mCall 2 f__law_take (pCons (mv 0) (pCons (mc (.int 2)) pNil))))) (mSl (mv 1) oN (oS (mv 2)))) (b6 d xs m row x4 x5):=λ x4 x5 n' st D' hn' g'=>by
  rw[WE.2.1,WE.2.1,wpe (e1 x4 x5 st)]
  walk_at "w"
  refine(take_wp D' (by omega) (by omega) (fit9 (by omega) (by omega))).mono ?_
  rintro _ s9 ⟨r,rfl,r0,r1,D9,K9⟩
  obtain⟨ws,ew,w1,w2⟩:=pA x4 x5 s9
  have e9:mSl (mv 1) oN (oS (mv 2)) (b6 d xs m row x4 x5) s9=.ok (.tup ws) s9:=ew
  rw[wpe (ea _ _ _),wpe (mulT_ok (by omega) (by omega))]
  have hl:(List.replicate (3+r).toNat [row]).flatten.length+ws.length<=12:=by rw[rep_len];omega
  have:=wpe e9 (λ w s2=>(opAddT (.tup (List.replicate (3+r).toNat [row]).flatten) w s2).wp λ v st'=>Od c d st' 7 v/\Dr c d (n'+1) st'/\Gk c d st st')
  refine Eq.mpr (by first|exact this|(simp only[WE.2.2.2.2.2.2.2.2.2.2.2.2.2.2.2.2.2.2.2.2.2.2.2.2.2.2.2.1]at this;exact this)) ?_
  rw[wpe (addT_tup (by omega))]
  refine⟨(p_tup (n:=6) (by rw[List.length_append];exact hl) λ x hx=>?_).od,D9,K9.gk⟩
  rcases List.mem_append.mp hx with hx|hx
  ·rw[rep_mem hx];exact hrow6
  ·exact w2 x hx
 have M3:MkL c d 7 (0+(1+(1+0))) (4+2+2) s3 (mBin opAddT (mv 4) (mNew (lLst (pCons (mBin opAddT (mBin opAddT (mSl (mv 1) oN (oS (mv 2))) (mTup (pCons (mCall 1 f__law_odd06 (pCons (mv 0) pNil)) pNil))) (mSl (mv 1) (oS (mBin opAddT (mv 2) (mc (.int 1)))) oN)) (pCons (mBin opAddT (mBin opMulT (mTup (pCons (mv 3) pNil)) (mBin opAddT (mc (.int 3)) (mCall 2 f__law_take (pCons (mv 0) (pCons (mc (.int 2)) pNil))))) (mSl (mv 1) oN (oS (mv 2)))) pNil))))) (b6 d xs m row (some (.ref j3)) none):=
  mkl_add (mkl_var o3 l3 λ _=>rfl) (mkl_new (mks_cons (mk_mid (n:=6) (pA _ _) (pB _ _) (mk_odd (w:=0) (λ _=>rfl) (by decide)) (by show m+1+(xs.length - (m+1))<=12;omega) (by decide)) (mks_cons (T9 _ _) mks_nil)) (by decide)) (by decide)
 rw[WS.2.1]
 refine(M3 _ s3 D3 (by omega) (Gk.refl c d s3)).mono ?_
 rintro _ s4 ⟨j4,ys4,rfl,l4,o4,D4,g4⟩
 rw[hK]
 clear hK K M3 T9
 have G4:=G3.trans g4
 show(sSeq _ _ (b6 d xs m row (some (.ref j4)) none) s4).wp _ _
 refine seq_step λ K hK=>?_
 walk_at "w"
 refine(take_wp D4 (by omega) (by omega) (fit9 (by omega) (by omega))).mono ?_
 rintro _ s5 ⟨w,rfl,w0,w1,D5,K5⟩
 rw[hK]
 clear hK K
 have G5:=G4.trans K5.gk
 have o5:=o4.gk K5.gk
 show(sSeq _ _ (b6 d xs m row (some (.ref j4)) (some (.int w))) s5).wp _ _
 have last:((sRet (mBin opIx (mv 4) (mBin opMod (mv 5) (mc (.int 8))))) (b6 d xs m row (some (.ref j4)) (some (.int w))) s5).wp (λ _ s1=>Od c d s1 7 .non/\Dr c d (n+40) s1/\Gk c d s s1) (λ v s'=>Od c d s' 7 v/\Dr c d (n+40) s'/\Gk c d s s'):=by
  have hf:w.fmod 8=w % 8:=Int.fmod_eq_emod_of_nonneg _ (by decide)
  obtain⟨v,hv,ev⟩:=ix_at (j:=w.fmod 8) o5.l (by rw[hf];omega) (by rw[l4,hf];show w % 8 < 8;omega)
  rw[WS.2.2.1,WE.2.1]
  refine Eq.mpr (wpe (show mv 4 (b6 d xs m row (some (.ref j4)) (some (.int w))) s5=.ok (.ref j4) s5 from rfl) _) ?_
  rw[WE.2.1]
  refine Eq.mpr (wpe (show mv 5 (b6 d xs m row (some (.ref j4)) (some (.int w))) s5=.ok (.int w) s5 from rfl) _) ?_
  rw[WE.1]
  have em:opMod (.int w) (.int 8) s5=.ok (.int (w.fmod 8)) s5:=by
   obtain⟨v',s',e',h1,h2⟩:=R.wp.get (m:=opMod (.int w) (.int 8) s5) (Q:=λ a b=>a=.int (w.fmod 8)/\b=s5) (by walk_at "w";decide)
   rw[e',h1,h2]
  rw[wpe em,wpe ev]
  exact⟨o5.o v hv,D5.mono (by omega),G5⟩
 have ec:cAnd (cB (mBin opGt (mv 5) (mc (.int 7)))) (cB (mBin opLt (mv 2) (mOp opLen (pCons (mv 1) pNil)))) (b6 d xs m row (some (.ref j4)) (some (.int w))) s5=.ok (decide (w > 7) && decide ((m:Int) < xs.length)) s5:=by
  unfold cAnd
  rw[b_ok (x:=decide (w > 7)) (bin_ok (v:=.int w) (v2:=.int 7) rfl rfl rfl)]
  cases decide (w > 7) with
  | true=>
   show cB (mBin opLt (mv 2) (mOp opLen (pCons (mv 1) pNil))) (b6 d xs m row (some (.ref j4)) (some (.int w))) s5=.ok (true && decide ((m:Int) < xs.length)) s5
   rw[Bool.true_and]
   exact b_ok (bin_ok (v:=.int m) (v2:=.int xs.length) rfl (op1_ok (v:=.tup xs) rfl lenT) rfl)
  | false=>rfl
 refine seq_step λ K hK=>?_
 rw[WS.2.2.2.1,wpe ec]
 cases hb:(decide (w > 7) && decide ((m:Int) < xs.length)) with
 | false=>rw[if_neg (by decide),WS.2.2.2.2.2.2.2.1,hK];exact last
 | true=>
  have hc:m < xs.length:=by
   have:=of_decide_eq_true (Bool.and_eq_true_iff.mp hb).2
   omega
  have M5:Mk c d 7 20 s5 (mBin opAddT (mBin opAddT (mSl (mv 1) oN (oS (mv 2))) (mTup (pCons (mCall 2 f__law_bent_row (pCons (mv 0) (pCons (mBin opIx (mv 1) (mv 2)) pNil))) pNil))) (mSl (mv 1) (oS (mBin opAddT (mv 2) (mc (.int 1)))) oN)) (b6 d xs m row (some (.ref j4)) (some (.int w))):=by
   refine mk_mid (n:=6) (pA _ _) (pB _ _) (λ n' st D' hn' g'=>?_) (by show m+1+(xs.length - (m+1))<=12;omega) (by decide)
   obtain⟨k,q,p,ek,RR⟩:=hr xs[m] (List.getElem_mem hc)
   have ei:mBin opIx (mv 1) (mv 2) (b6 d xs m row (some (.ref j4)) (some (.int w))) st=.ok (.tup [.str k,.str q,p]) st:=by
    refine bin_ok (v:=.tup xs) (v2:=.int m) rfl rfl ?_
    show(need (atI xs m) λ v=>R.ok v st)=_
    rw[atI_nat (v:=xs[m]) (List.getElem?_eq_getElem hc),ek];rfl
   rw[WE.2.2.2.2.2.2.1,WE.2.2.2.2.2.2.2.1]
   refine Eq.mpr (wpe (show mv 0 (b6 d xs m row (some (.ref j4)) (some (.int w))) st=.ok (.ref d) st from rfl) _) ?_
   rw[WE.2.2.2.2.2.2.2.1,wpe ei,WE.2.2.2.2.2.2.2.2.1]
   exact⟨rfl,bent_row_wp D' (by omega) RR⟩
  rw[if_pos rfl,WS.2.2.1]
  refine(M5 _ s5 D5 (by omega) (Gk.refl c d s5)).mono ?_
  rintro v s6 ⟨o,D6,g6⟩
  exact⟨o,D6.mono (by omega),G5.trans g6⟩
theorem skip6 {c:Eb}{a:Ms}{env:En}{s:S}{N:En->S->Prop}{T:AV->S->Prop}(h:c env s=.ok false s)(k:N env s):(sIf c a sSkip env s).wp N T:=by
 unfold sIf;rw[h];exact k
theorem rs_ok {rs:List Rw}(h:∀ r∈rs,R6 r)(h8:rs.length<=8)(h3:nL rs<=3):isRws (.tup (rs.map rv))=true/\∀ x∈rs.map rv,∃ k q p,x=.tup [.str k,.str q,p]/\Rk6 k q p:=by
 have hx:∀ x∈rs.map rv,∃ k q p,x=.tup [.str k,.str q,p]/\Rk6 k q p:=λ x hx=>by
  obtain⟨r,hr,rfl⟩:=List.mem_map.mp hx
  exact r6_facts (h r hr)
 refine⟨?_,hx⟩
 rw[isRws_eq,List.length_map,decide_eq_true h8,lefts_nL,decide_eq_true h3,List.all_eq_true.mpr λ x hxm=>?_]
 ·rfl
 ·obtain⟨k,q,p,rfl,R⟩:=hx x hxm
  exact R.ok
theorem rows_G {rs:List Rw}(h:∀ r∈rs,R6 r)(h8:rs.length<=8):P6 7 (.tup (rs.map rv)):=p_tup (n:=6) (by rw[List.length_map];show rs.length<=12;omega) λ x hx=>by
 obtain⟨r,hr,rfl⟩:=List.mem_map.mp hx
 obtain⟨k,q,p,e,R⟩:=r6_facts (h r hr)
 rw[e]
 exact(p3 (n:=3) (p_str R.kd 3) (p_str (R.nm.2.mono (by decide)) 3) R.pl).up (by decide)
abbrev e8 (x0:AV)(d:Nat)(x2:Option AV)(xs:List AV)(x4 x5 x6 x7:Option AV):En:=[some x0,some (.ref d),x2,some (.tup xs),x4,x5,x6,x7]
theorem turn06 {c d n:Nat}{s:S}{x0:AV}{x2 x4 x5 x6 x7:Option AV}{xs:List AV}(D:Dr c d n s)(hn:n<=600000000)(h8:xs.length<=8)(hr:∀ x∈xs,∃ k q p,x=.tup [.str k,.str q,p]/\Rk6 k q p)(T:AV->S->Prop) :
    ((sSeq (sSet 5 (mCall 2 f__law_bent (pCons (mv 1) (pCons (mv 3) pNil))))
 (sSeq (sSet 6 (mOp opStrD (pCons (mv 5) pNil)))
 (sSeq (sSet 7 (gcE (mCall 1 f_is_rows (pCons (mv 5) pNil))))
 (sIf (cOr (cNot (cT (mUn (opIsi "bool") (mv 7)))) (cOr (cB (mBin opNe (mv 7) (gcE (mCall 1 f__law_due (pCons (mv 5) pNil))))) (cB (mBin opNe (mOp opStrD (pCons (mv 5) pNil)) (mv 6))))) (sRet (mc (.bl false))) sSkip)))) (e8 x0 d x2 xs x4 x5 x6 x7) s).wp (λ env s'=>∃ y5 y6 y7,env=e8 x0 d x2 xs x4 y5 y6 y7/\Dr c d (n+40) s'/\Gk c d s s') T:=by
  refine seq_step λ K hK=>?_
  walk_at "w"
  refine(bent06_wp D (by omega) h8 hr).mono ?_
  rintro v s1 ⟨⟨md,g⟩,D1,G1⟩
  rw[hK]
  clear hK K
  obtain⟨t,et⟩:=strG g
  have r1:=is_rows_eq g.okRs
  have r2:=due_eq g.okRs
  let E5:En:=e8 x0 d x2 xs x4 (some v) x6 x7
  let E6:En:=e8 x0 d x2 xs x4 (some v) (some (.str t)) x7
  let E7:En:=e8 x0 d x2 xs x4 (some v) (some (.str t)) (some (.bl (isRws v)))
  show(sSeq _ _ E5 s1).wp _ _
  refine seq_step λ K hK=>?_
  rw[WS.2.1,wpe (op1_ok (m:=mv 5) (env:=E5) (v:=v) rfl et),hK]
  clear hK K
  show(sSeq _ _ E6 s1).wp _ _
  refine seq_step λ K hK=>?_
  rw[WS.2.1,wpe (gcE_same (call1 (m:=mv 5) (env:=E6) (v:=v) rfl r1)),hK]
  clear hK K
  show(sIf _ _ _ E7 s1).wp _ _
  have c1:cNot (cT (mUn (opIsi "bool") (mv 7))) E7 s1=.ok false s1:=not_ok (x:=true) (t_ok (isi_b (v:=.bl (isRws v)) ⟨_,rfl⟩ rfl (by unfold isTy;rfl)))
  have c2:cB (mBin opNe (mv 7) (gcE (mCall 1 f__law_due (pCons (mv 5) pNil)))) E7 s1=.ok false s1:=by
    refine b_ok (bin_ok (v:=.bl (isRws v)) rfl (gcE_same (call1 (m:=mv 5) (env:=E7) (v:=v) rfl r2)) ?_)
    show R.ok (AV.bl (!decide (isRws v=isRws v))) s1=_
    simp
  have c3:cB (mBin opNe (mOp opStrD (pCons (mv 5) pNil)) (mv 6)) E7 s1=.ok false s1:=by
    refine b_ok (bin_ok (v2:=.str t) (op1_ok (m:=mv 5) (env:=E7) (v:=v) rfl et) rfl ?_)
    show R.ok (AV.bl (!decide (t=t))) s1=_
    simp
  exact skip6 (or_f c1 (or_f c2 c3)) ⟨_,_,_,rfl,D1,G1⟩
theorem law_wp (ns:List Int):(f_law06 [.sq (ns.map AV.int)] []).wp λ v s'=>v=.bl true:=by
 unfold f_law06 b_law06
 refine fn1w' ?_
 refine seq_step λ K hK=>?_
 try walk_at "w"
 refine(begin_wp ns).mono ?_
 rintro _ s0 ⟨c,d,rfl,D0⟩
 rw[hK]
 clear hK K
 refine seq_step λ K hK=>?_
 rw[WS.2.2.2.2.2.2.2.2.1,wp_srcR]
 refine⟨⟨by decide,by decide⟩,?_⟩
 refine for_wp (λ l env st=>∃ (x2 x3 x4 x5 x6 x7:Option AV) (z:Nat),l.length+z=4/\env=[some (.sq (ns.map AV.int)),some (.ref d),x2,x3,x4,x5,x6,x7]/\Dr c d (1000 * z) st) ?_ ?_ ?_ _ _ _ ⟨none,none,none,none,none,none,0,by simp[rngA],rfl,D0⟩
 ·exact λ _ _ st _=>gOk_nil st
 case refine_2=>
  rintro env st ⟨x2,x3,x4,x5,x6,x7,z,_,rfl,_⟩
  rw[hK]
  rfl
 rintro v r env st ⟨x2,x3,x4,x5,x6,x7,z,hz,rfl,D1⟩
 clear hK K
 have hz:r.length+1+z=4:=hz
 rw[WS.2.2.2.2.2.2.2.2.2.2.1]
 refine seq_step λ K hK=>?_
 try walk_at "w"
 refine(some06_wp D1 (by omega)).mono ?_
 rintro _ s1 ⟨rs,rfl,hr,h8,h3,D2,K2⟩
 rw[hK]
 clear hK K
 obtain⟨ok,hx⟩:=rs_ok hr h8 h3
 have gR:okRs s1 (.tup (rs.map rv)):=G.okRs (c:=c) (d:=d) (md:=true) ((rows_G hr h8).g)
 have g0:okRs s1 (.tup []):=G.okRs (c:=c) (d:=d) (md:=true) (s:=s1) (P6.g (p_tup (n:=6) (xs:=[]) (by decide) (λ _ h=>nomatch h)))
 have r1:=is_rows_eq gR
 have r0:=is_rows_eq g0
 rw[ok]at r1
 have hl:(rs.map rv).length<=8:=by rw[List.length_map];exact h8
 clear gR g0 hr h8 h3 ok
 revert r1 hx hl
 generalize rs.map rv=xs
 intro hx r1 hl
 let E:En:=e8 (.sq (ns.map AV.int)) d (some v) xs x4 x5 x6 x7
 show(sSeq _ _ E s1).wp _ _
 refine seq_step λ K hK=>?_
 have c1:cB (mBin opIsntN (gcE (mCall 1 f_is_rows (pCons (mv 3) pNil))) (mc (.bl true))) E s1=.ok false s1:=b_ok (bin_ok (gcE_same (call1 (m:=mv 3) (env:=E) (v:=.tup xs) rfl r1)) rfl rfl)
 have c2:cB (mBin opIsntN (gcE (mCall 1 f_is_rows (pCons (mTup pNil) pNil))) (mc (.bl true))) E s1=.ok false s1:=b_ok (bin_ok (gcE_same (call1 (m:=mTup pNil) (env:=E) (v:=.tup []) (tup_ok (vs:=[]) rfl (by simp)) r0)) rfl rfl)
 refine skip6 (or_f c1 c2) ?_
 rw[hK]
 clear hK K
 rw[WS.2.2.2.2.2.2.2.2.1,wp_srcR]
 refine⟨⟨by decide,by decide⟩,?_⟩
 refine for_wp (λ l env st=>∃ (x4 x5 x6 x7:Option AV) (y:Nat),l.length+y=10/\env=e8 (.sq (ns.map AV.int)) d (some v) xs x4 x5 x6 x7/\Dr c d (1000 * z+300+40 * y) st) ?_ ?_ ?_ _ _ _ ⟨x4,x5,x6,x7,0,by simp[rngA],rfl,D2⟩
 ·exact λ _ _ st _=>gOk_nil st
 case refine_2=>
  rintro env st2 ⟨x4,x5,x6,x7,y,hy,rfl,D3⟩
  have hy:0+y=10:=hy
  exact⟨_,_,_,_,_,_,z+1,by omega,rfl,D3.mono (by omega)⟩
 rintro w r2 env st2 ⟨x4,x5,x6,x7,y,hy,rfl,D3⟩
 have hy:r2.length+1+y=10:=hy
 rw[WS.2.2.2.2.2.2.2.2.2.2.1]
 refine(turn06 D3 (by omega) hl hx _).mono ?_ (λ _ _ h=>h)
 rintro env s' ⟨y5,y6,y7,rfl,D4,_⟩
 exact⟨_,_,_,_,y+1,by omega,rfl,D4.mono (by omega)⟩
end Ro
def PySem.W.Fast.tw14331943627241143065:Unit:=()
def PySem.W.Fast.tw3087014953933268116:Unit:=()
def PySem.W.Fast.tw6202147962534160042:Unit:=()
def PySem.W.Fast.tw13165044808159415507:Unit:=()
def PySem.W.Fast.tw7764637029965305784:Unit:=()
def PySem.W.Fast.tw11639361274162334256:Unit:=()
def PySem.W.Fast.tw18417526592759067601:Unit:=()
def PySem.W.Fast.tw10634427309967554027:Unit:=()
def PySem.W.Fast.tw1640671289212402736:Unit:=()
def PySem.W.Fast.tw17605313812090464880:Unit:=()
open PySem PySem.W PyProof.Rows
set_option maxRecDepth 100000 in
set_option maxHeartbeats 0 in
theorem PySem.Challenge.cw_royaltree_k06_what_rows_are_holds : PySem.Challenge.rw_royaltree_k06_what_rows_are.Holds := by
 w_on;o_law;k_head;(case hw=>w_witness2)
 k_fill
 refine Ro.walk (l:=PySem.Challenge.rw_royaltree_k06_what_rows_are) Ro.f_law06 7 ⟨rfl,rfl,by decide,by decide⟩ Ro.law_wp rfl rfl (λ w h Y=>PySem.W.kIn_of Y) ?F
 case F=>
  intro w mg fa h KX G hmg
  refine' Ro.fin_mk KX G hmg ?_ ?_ ?_ ?_ ?_ ?_ ?_ ?_ ?_ ?_ ?_ ?_ ?_ ?_ ?_ ?_ ?_ ?_ ?_ ?_ ?_ ?_ ?_ ?_ ?_ ?_ ?_ ?_ ?_ ?_ ?_ ?_ ?_ ?_ ?_ ?_ ?_ ?_ ?_ ?_ ?_ ?_ ?_ ?_ ?_ ?_ ?_ ?_ ?_ ?_ ?_
  (k_is)
  (k_is)
  (k_is)
  (k_is)
  (k_is)
  (k_is)
  (k_is)
  (k_is)
  (k_is)
  (k_is)
  (k_is)
  (k_is)
  (k_is)
  (refine' Ro.kst_mk1 (x:="GREATEST_BELOW") (v:=.int 60) KX G ?a ?r ?w;(case a=>k_is);(case r=>exact⟨_,rfl⟩);(case w=>exact λ ρ H=>by unfold Mm.VR;rfl))
  (refine' Ro.kst_mk1 (x:="GREATEST_LENGTH") (v:=.int 1000) KX G ?a ?r ?w;(case a=>k_is);(case r=>exact⟨_,rfl⟩);(case w=>exact λ ρ H=>by unfold Mm.VR;rfl))
  (refine' Ro.kst_mk1 (x:="GREATEST_UPTO") (v:=.int 1000000) KX G ?a ?r ?w;(case a=>k_is);(case r=>exact⟨_,rfl⟩);(case w=>exact λ ρ H=>by unfold Mm.VR;rfl))
  (refine' Ro.kst_mk1 (x:="LEAST_RATES") (v:=.int 2) KX G ?a ?r ?w;(case a=>k_is);(case r=>exact⟨_,rfl⟩);(case w=>exact λ ρ H=>by unfold Mm.VR;rfl))
  (refine' Ro.kst_mk1 (x:="LONGEST_NAME") (v:=.int 8) KX G ?a ?r ?w;(case a=>k_is);(case r=>exact⟨_,rfl⟩);(case w=>exact λ ρ H=>by unfold Mm.VR;rfl))
  (refine' Ro.kst_mk1 (x:="MOST_LEFT_ROWS") (v:=.int 3) KX G ?a ?r ?w;(case a=>k_is);(case r=>exact⟨_,rfl⟩);(case w=>exact λ ρ H=>by unfold Mm.VR;rfl))
  (refine' Ro.kst_mk1 (x:="MOST_RATES") (v:=.int 4) KX G ?a ?r ?w;(case a=>k_is);(case r=>exact⟨_,rfl⟩);(case w=>exact λ ρ H=>by unfold Mm.VR;rfl))
  (refine' Ro.kst_mk1 (x:="MOST_ROWS") (v:=.int 8) KX G ?a ?r ?w;(case a=>k_is);(case r=>exact⟨_,rfl⟩);(case w=>exact λ ρ H=>by unfold Mm.VR;rfl))
  all_goals (refine' Ro.df_mk KX G ?a ?l ?c ?k;(case a=>k_is);(case l=>k_is);(case c=>k_is);(case k=>k_is))
