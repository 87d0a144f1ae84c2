import PyProof.Rows.All
import Wide.All
import OpenK.AllK
import Wide.FinOn
import Lean
import PyProof.EqAt
import PyProof.EqKinds
import PyProof.TupleCall
import PySem.Challenge.RW_royaltree_k12_people_and_works
set_option Elab.async false
set_option linter.all false
set_option maxRecDepth 100000
namespace L2
open PySem PySem.Spec PyProof.Rows
abbrev Key:=Sum Int Str
def rF:Key->Value->Bool
 | .inl k,v=>Value.isInt k v
 | .inr x,v=>Value.isStrOf x v
def O7 (w:World):Key->Int
 | .inl k=>hashInt k
 | .inr x=>hashStr w x
theorem ck:∀ {k:Key}{v:Value},rF k v=true->(∃ i t,k=Sum.inl i/\v=Value.int i t)∨(∃ x t,k=Sum.inr x/\v=Value.str x t)
 | .inl i,v,h=>by
  obtain⟨t,e⟩:=Value.isInt_shape (k:=i) (v:=v) h
  exact .inl ⟨i,t,rfl,e⟩
 | .inr x,v,h=>by
  obtain⟨t,e⟩:=Value.isStrOf_shape (x:=x) (v:=v) h
  exact .inr ⟨x,t,rfl,e⟩
theorem yp (i:Int)(t:Tok):rF (.inl i) (.int i t)=true:=by simp[rF,Value.isInt]
theorem yo (x:Str)(t:Tok):rF (.inr x) (.str x t)=true:=by simp[rF,Value.isStrOf]
theorem IL (a b:Int):decide ((Sum.inl a:Key)=Sum.inl b)=(a == b):=by
 by_cases e:a=b
 ·subst e;simp
 ·have h:¬ (Sum.inl a:Key)=Sum.inl b:=λ q=>e (Sum.inl.inj q)
  rw[decide_eq_false h]
  exact(beq_eq_false_iff_ne.mpr e).symm
theorem II (a b:Str):decide ((Sum.inr a:Key)=Sum.inr b)=decide (a=b):=by
 by_cases e:a=b
 ·subst e;simp
 ·have h:¬ (Sum.inr a:Key)=Sum.inr b:=λ q=>e (Sum.inr.inj q)
  rw[decide_eq_false h,decide_eq_false e]
theorem IK (a:Int)(b:Str):decide ((Sum.inl a:Key)=Sum.inr b)=false:=decide_eq_false (λ q=>nomatch q)
theorem IJ (a:Str)(b:Int):decide ((Sum.inr a:Key)=Sum.inl b)=false:=decide_eq_false (λ q=>nomatch q)
def bw (prog:Program)(w:World):PySem.KeyKind prog w Key where
 is:=rF
 hash:=O7 w
 inj:=λ v a b ha hb=>by
  rcases ck ha with⟨i,t,rfl,rfl⟩|⟨x,t,rfl,rfl⟩
  ·rcases ck hb with⟨j,u,rfl,e⟩|⟨y,u,rfl,e⟩
   ·injection e with e1 _;rw[e1]
   ·exact nomatch e
  ·rcases ck hb with⟨j,u,rfl,e⟩|⟨y,u,rfl,e⟩
   ·exact nomatch e
   ·injection e with e1 _;rw[e1]
 byValue:=λ k v h=>by
  rcases ck h with⟨i,t,rfl,rfl⟩|⟨x,t,rfl,rfl⟩<;>rfl
 pyHash:=λ hv h=>by
  rcases ck hv with⟨i,t,rfl,rfl⟩|⟨x,t,rfl,rfl⟩
  ·exact wpAny_pyHash_int h
  ·exact wpAny_pyHash_str h
 eqBool:=λ hu hv h=>by
  rcases ck hu with⟨i,t,rfl,rfl⟩|⟨x,t,rfl,rfl⟩
  ·rcases ck hv with⟨j,u,rfl,rfl⟩|⟨y,u,rfl,rfl⟩
   ·rw[IL]at h;exact wpAny_eqBool_int h
   ·rw[IK]at h;exact SeqAt.EqAt.int_str i t y u _ _ _ _ h
  ·rcases ck hv with⟨j,u,rfl,rfl⟩|⟨y,u,rfl,rfl⟩
   ·rw[IJ]at h;exact SeqAt.EqAt.str_int x t j u _ _ _ _ h
   ·rw[II]at h;exact wpAny_eqBool_str h
 «strs»:=λ k x t v h=>by
  rcases ck h with⟨i,u,rfl,e⟩|⟨y,u,rfl,e⟩
  ·exact nomatch e
  ·injection e with e1 _
   subst e1
   cases v<;>rfl
theorem uF (prog:Program)(w:World)(i:Int)(t:Tok):(bw prog w).is (.inl i) (.int i t)=true:=yp i t
theorem uE (prog:Program)(w:World)(x:Str)(t:Tok):(bw prog w).is (.inr x) (.str x t)=true:=yo x t
end L2
namespace L2
open PySem PySem.Spec PyProof.Rows
inductive V where
 | az|bl (b:Bool)|int (i:Int)|str (x:Str)|wd (b:Array UInt8)|Gh (b:UInt64)|ref (a:Addr)|ty (n:String)
 deriving DecidableEq
def RelV:V->Value->Prop
 | .az,u=>u=Value.none
 | .bl b,u=>u=Value.bool b
 | .int i,u=>∃ t,u=Value.int i t
 | .str x,u=>∃ t,u=Value.str x t
 | .wd b,u=>∃ t,u=Value.bytes b t
 | .Gh b,u=>∃ t,u=Value.float b t
 | .ref a,u=>u=Value.ref a
 | .ty n,u=>u=Value.type n
abbrev Vals:List V->List Value->Prop:=Paired RelV
theorem Vals.length {xs:List V}{us:List Value}(r:Vals xs us):xs.length=us.length:=Paired.length r
theorem Vals.get:∀ {xs:List V}{us:List Value}{i:Nat}{x:V},Vals xs us->xs[i]? = some x->∃ u,us[i]? = some u/\RelV x u
 | _,_,_,_,.nil,e=>by simp at e
 | _,_,0,_,.cons r _,e=>by simp at e;subst e;exact⟨_,rfl,r⟩
 | _,_,i+1,x,.cons _ t,e=>by
  obtain⟨u,h1,h2⟩:=Vals.get (i:=i) (x:=x) t (by simpa using e)
  exact⟨u,by simpa using h1,h2⟩
theorem Vals.set {x:V}{u:Value}(r:RelV x u):∀ {xs:List V}{us:List Value}(i:Nat),Vals xs us->Vals (xs.set i x) (us.set i u)
 | _,_,_,.nil=>.nil
 | _,_,0,.cons _ t=>.cons r t
 | _,_,i+1,.cons q t=>.cons q (Vals.set r i t)
theorem Vals.append:∀ {xs ys:List V}{us ws:List Value},Vals xs us->Vals ys ws->Vals (xs++ys) (us++ws)
 | _,_,_,_,.nil,s=>s
 | _,_,_,_,.cons r t,s=>.cons r (Vals.append t s)
theorem Vals.take:∀ {xs:List V}{us:List Value}(n:Nat),Vals xs us->Vals (xs.take n) (us.take n)
 | _,_,0,_=>.nil
 | _,_,_+1,.nil=>.nil
 | _,_,n+1,.cons r t=>.cons r (Vals.take n t)
theorem Vals.drop:∀ {xs:List V}{us:List Value}(n:Nat),Vals xs us->Vals (xs.drop n) (us.drop n)
 | _,_,0,r=>r
 | _,_,_+1,.nil=>.nil
 | _,_,n+1,.cons _ t=>Vals.drop n t
def jF:Option V->Option Value->Prop
 | some v,some u=>RelV v u
 | none,none=>True
 | _,_=>False
def KV {κ:Type}:List (κ × V)->List (κ × Value)->Prop:=Paired λ(p:κ × V) (q:κ × Value)=>p.1=q.1/\RelV p.2 q.2
def kV:Key->V
 | .inl i=>.int i
 | .inr x=>.str x
inductive HO where
 | lst (xs:List V)
 | tup (xs:List V)
 | dK (kvs:List (Key × V))|dT (kvs:List (List Key × V))
 | set (S:Int->Bool) (n:Nat)
 | ins (C dx:Addr) (fs:List (Str × V))
 | own (x:Addr)
 | xd (fs:List (Str × V))
 | met (f x:Addr)
 | Km (lo hi:Int)
 | k9 (o:Obj) (u:HO)
 | oM (ps:Array Value)
 | ext (φ:Heap->Prop)
abbrev Hp:=Addr->Option HO
def upd (H:Hp)(a:Addr)(o:HO):Hp:=λ b=>if b=a then some o else H b
theorem av {H:Hp}{a:Addr}{o:HO}:upd H a o a=some o:=by unfold upd;rw[if_pos rfl]
theorem ah {H:Hp}{a b:Addr}{o:HO}(h:b≠a):upd H a o b=H b:=by unfold upd;rw[if_neg h]
theorem wA {H:Hp}{a:Addr}{o u:HO}:upd (upd H a o) a u=upd H a u:=by
 funext b;unfold upd;split<;>rfl
theorem pQ {H:Hp}{a b:Addr}{o u:HO}(h:H a=some o)(h':H b=some u)(d:o≠u):a≠b:=by
 intro e;subst e;rw[h]at h';exact d (Option.some.inj h')
theorem aF {H:Hp}{a b:Addr}{o:HO}(h:H a=some o)(h':H b=none):a≠b:=by
 intro e;subst e;rw[h]at h';cases h'
section
variable (P:Program)(w:World)
def bQ (H:Hp)(h:Heap)(a:Addr):HO->Prop
 | .lst xs=>xs.length<=sizeLine/\∃ (its:List Value) (n:Nat),Vals xs its/\h.get? a=some { cls:=.type "list",data:=.seq its.toArray n }
 | .tup xs=>xs.length<=sizeLine/\∃ its:List Value,Vals xs its/\IsTup h a its.toArray
 | .dK kvs=>kvs.length<=sizeLine/\(a == sysModules)=false/\∃ vs,KV kvs vs/\h.DictOf (bw P w) a vs
 | .dT kvs=>kvs.length<=sizeLine/\(a == sysModules)=false/\∃ xs:List (List Key × Addr × Value),
   Paired (λ(p:List Key × V) (q:List Key × Addr × Value)=>p.1=q.1/\H q.2.1=some (.tup (p.1.map kV))/\RelV p.2 q.2.2) kvs xs/\
   ∃ o es ep,h.get? a=some o/\o.ExactDict/\o.data=.dict es ep/\es.toList=xs.map (entryOfKey (tupleKind (bw P w)))/\(xs.map (·.1)).Nodup
 | .set S n=>h.SetOf (intKind P w) a S n
 | .ins C dx fs=>H dx=some (.own a)/\fs.length<=1000/\dx≠a/\h.get? a=some (PySem.W.instObj C dx)/\
   ∃ mA,h.Ns1 dx mA/\(∀ f,jF (fs.lookup f) (mA f))/\PySem.Within mA (fs.map (·.1))
 | .own _=>∃ o,h.get? a=some o
 | .xd fs=>∃ mA,h.Ns1 a mA/\∀ f,jF (fs.lookup f) (mA f)
 | .Km lo hi=>∃ t u v,h.get? a=some { cls:=.type "range",data:=.fields #[.int lo t,.int hi u,.int 1 v] }
 | .k9 o u=>h.get? a=some o/\bQ H h a u
 | .oM ps=>h.get? a=some { cls:=.none,data:=.fields ps }
 | .met f x=>h.get? a=some (PySem.W.methodObj (.ref f) (.ref x))
 | .ext φ=>φ h/\(∃ o,h.get? a=some o)/\∀ h1 h2:Heap,φ h1->(∀ o,h1.get? a=some o->h2.get? a=some o)->φ h2
def jG (H:Hp)(h:Heap):Prop:=∀ a o,H a=some o->bQ P w H h a o
end
section
variable {P:Program}{w:World}{H H':Hp}{h h':Heap}{a:Addr}{o:HO}
theorem bQ.lt (x:bQ P w H h a o):a < h.objs.size:=by
 cases o with
 | lst xs=>obtain⟨_,_,_,_,e⟩:=x;exact Heap.lt_size e
 | tup xs=>obtain⟨_,_,_,p⟩:=x;exact p.lt
 | dK kvs=>obtain⟨_,_,_,_,o,_,_,e,_⟩:=x;exact Heap.lt_size e
 | dT kvs=>obtain⟨_,_,_,_,o,_,_,e,_⟩:=x;exact Heap.lt_size e
 | set S n=>obtain⟨o,_,_,_,e,_⟩:=x;exact Heap.lt_size e
 | ins C dx fs=>obtain⟨_,_,_,e,_⟩:=x;exact Heap.lt_size e
 | own y=>obtain⟨_,e⟩:=x;exact Heap.lt_size e
 | xd fs=>obtain⟨_,⟨_,_,_,e,_⟩,_⟩:=x;exact Heap.lt_size e
 | Km lo hi=>obtain⟨_,_,_,e⟩:=x;exact Heap.lt_size e
 | k9 ob u=>obtain⟨e,_⟩:=x;exact Heap.lt_size e
 | oM ps=>exact Heap.lt_size (show h.get? a=some _ from x)
 | met f y=>exact Heap.lt_size (show h.get? a=some _ from x)
 | ext φ=>obtain⟨_,⟨_,e⟩,_⟩:=x;exact Heap.lt_size e
theorem Paired.IA {α β:Type}{F G:α->β->Prop}:∀ {l₁:List α}{l₂:List β},Paired F l₁ l₂->(∀ a b,F a b->G a b)->Paired G l₁ l₂
 | _,_,.nil,_=>.nil
 | _,_,.cons r t,f=>.cons (f _ _ r) (Paired.IA t f)
theorem bQ.lj (x:bQ P w H h a o)(k:∀ b u,(b=a∨H b=some (.own a))->h.get? b=some u->h'.get? b=some u)
  (ho:∀ b,H b=some (.own a)->H' b=some (.own a)) (ht:∀ b xs,H b=some (.tup xs)->H' b=some (.tup xs)):bQ P w H' h' a o:=by
 induction o with
 | lst xs=>obtain⟨z,its,n,r,e⟩:=x;exact⟨z,its,n,r,k _ _ (.inl rfl) e⟩
 | tup xs=>obtain⟨z,its,r,ob,e,c⟩:=x;exact⟨z,its,r,ob,k _ _ (.inl rfl) e,c⟩
 | dK kvs=>obtain⟨z,y,vs,r,ob,es,ep,e,c⟩:=x;exact⟨z,y,vs,r,ob,es,ep,k _ _ (.inl rfl) e,c⟩
 | dT kvs=>
  obtain⟨z,y,xs,r,ob,es,ep,e,c⟩:=x
  exact⟨z,y,xs,Paired.IA r λ p q z=>⟨z.1,ht _ _ z.2.1,z.2.2⟩,ob,es,ep,k _ _ (.inl rfl) e,c⟩
 | set S n=>obtain⟨ob,es,ep,t,e,c⟩:=x;exact⟨ob,es,ep,t,k _ _ (.inl rfl) e,c⟩
 | ins C dx fs=>
  obtain⟨d,z,ne,e,mA,⟨od,es,ep,e2,c⟩,r⟩:=x
  exact⟨ho _ d,z,ne,k _ _ (.inl rfl) e,mA,⟨od,es,ep,k _ _ (.inr d) e2,c⟩,r⟩
 | own y=>obtain⟨ob,e⟩:=x;exact⟨ob,k _ _ (.inl rfl) e⟩
 | xd fs=>obtain⟨mA,⟨od,es,ep,e,c⟩,r⟩:=x;exact⟨mA,⟨od,es,ep,k _ _ (.inl rfl) e,c⟩,r⟩
 | Km lo hi=>obtain⟨t,u,v,e⟩:=x;exact⟨t,u,v,k _ _ (.inl rfl) e⟩
 | k9 ob u ih=>obtain⟨e,q⟩:=x;exact⟨k _ _ (.inl rfl) e,ih q⟩
 | oM ps=>
  have e:h.get? a=some { cls:=.none,data:=.fields ps }:=x
  show h'.get? a=some { cls:=.none,data:=.fields ps }
  exact k a _ (.inl rfl) e
 | met f y=>
  have e:h.get? a=some (PySem.W.methodObj (.ref f) (.ref y)):=x
  show h'.get? a=some (PySem.W.methodObj (.ref f) (.ref y))
  exact k a _ (.inl rfl) e
 | ext φ=>obtain⟨p,⟨o,e⟩,st⟩:=x;exact⟨st _ _ p λ o q=>k _ _ (.inl rfl) q,⟨o,k _ _ (.inl rfl) e⟩,st⟩
theorem jG.lt (x:jG P w H h)(e:H a=some o):a < h.objs.size:=(x a o e).lt
theorem jG.fresh (x:jG P w H h)(e:h.objs.size<=a):H a=none:=by
 cases q:H a with
 | none=>rfl
 | some u=>exact absurd (Nat.lt_of_lt_of_le (x.lt q) e) (Nat.lt_irrefl _)
theorem jG.kept (x:jG P w H h)(k:∀ b u,h.get? b=some u->h'.get? b=some u):jG P w H h':=λ a o e=>
 (x a o e).lj (λ b u _ q=>k b u q) (λ _ q=>q) λ _ _ q=>q
theorem jG.laid (x:jG P w H h)(k:∀ b u,h.get? b=some u->h'.get? b=some u)(hp:h.objs.size<=a)(new:bQ P w (upd H a o) h' a o):jG P w (upd H a o) h':=λ b u e=>by
 have hn:=x.fresh hp
 by_cases hb:b=a
 ·subst hb;rw[av]at e;cases e;exact new
 ·rw[ah hb]at e
  exact(x b u e).lj (λ c v _ q=>k c v q) (λ c q=>by rw[ah (aF q hn)];exact q) λ c xs q=>by rw[ah (aF q hn)];exact q
end
def Rd (H:Hp)(a:Addr)(u:HO):Prop:=H a=some u∨∃ o,H a=some (.k9 o u)
theorem Rd.ok {P:Program}{w:World}{H:Hp}{h:Heap}{a:Addr}{u:HO}(r:Rd H a u)(x:jG P w H h):bQ P w H h a u:=by
 rcases r with r|⟨o,r⟩
 ·exact x a u r
 ·obtain⟨_,q⟩:=x a _ r
  exact q
def JS:Option HO->Prop
 | some (.lst _)=>True
 | some (.dK _)=>True
 | some (.dT _)=>True
 | some (.set _ _)=>True
 | some (.ins _ _ _)=>True
 | some (.ext _)=>True
 | _=>False
section
variable {P:Program}{w:World}{H:Hp}{h h':Heap}{x e:Addr}{o':HO}
theorem jG.write (ok:jG P w H h)(mu:JS (H x)) (he:e=x∨H e=some (.own x)) (k:∀ b u,b≠e->h.get? b=some u->h'.get? b=some u)(JL:∃ u,h'.get? e=some u)
  (new:bQ P w (upd H x o') h' x o'):jG P w (upd H x o') h':=λ b u q=>by
 have K8:∀ c y,H c=some (.own y)->c≠x:=λ c y r z=>by subst z;rw[r]at mu;exact mu
 have OX:∀ c xs,H c=some (.tup xs)->c≠x:=λ c xs r z=>by subst z;rw[r]at mu;exact mu
 by_cases hb:b=x
 ·subst hb;rw[av]at q;cases q;exact new
 ·rw[ah hb]at q
  by_cases E2:b=e
  ·have q':H b=some (.own x):=by
    rcases he with z|z
    ·exact absurd (E2.trans z) hb
    ·rw[E2];exact z
   rw[q]at q';cases q'
   obtain⟨v,hv⟩:=JL
   exact⟨v,by rw[E2];exact hv⟩
  ·refine(ok b u q).lj (λ c v hc r=>k c v ?_ r) (λ c r=>by rw[ah (K8 c b r)];exact r) λ c xs r=>by rw[ah (OX c xs r)];exact r
   rcases hc with rfl|hc
   ·exact E2
   ·rintro rfl
    rcases he with z|z
    ·exact K8 c b hc z
    ·rw[hc]at z;cases z;exact hb rfl
end
structure Un (fs ex:List Addr)(H H':Hp)(h h':Heap):Prop where
 keep:∀ b o,h.get? b=some o->H b=none->b∉fs->b∉ex->h'.get? b=some o
 slot:∀ b o,h.get? b=some o->H b=none->b∈fs->b∉ex->∃ sl,h'.get? b=some { o with slots:=sl }
 free:∀ b o,h.get? b=some o->H b=none->b∉ex->H' b=none
 there:∀ b o,h.get? b=some o->b∉ex->∃ o',h'.get? b=some o'
 jC:∀ b xs,H b=some (.tup xs)->H' b=some (.tup xs)
 iF:∀ b o u,H b=some (.k9 o u)->H' b=some (.k9 o u)
 ph:∀ b ps,H b=some (.oM ps)->∃ more,H' b=some (.oM (ps++more))
section
variable {fs Mg ex TX:List Addr}{H H1 H2:Hp}{h h1 h2 h':Heap}{a x e:Addr}{o:HO}
theorem Un.any (u:Un fs ex H H1 h h1){b:Addr}{ob:Obj}(q:h.get? b=some ob)(n:H b=none)(hx:b∉ex):∃ sl,h1.get? b=some { ob with slots:=sl }:=by
 by_cases hb:b∈fs
 ·exact u.slot b ob q n hb hx
 ·exact⟨ob.slots,u.keep b ob q n hb hx⟩
theorem Un.kept (k:∀ b u,h.get? b=some u->h'.get? b=some u):Un fs ex H H h h':=
 ⟨λ b ob q _ _ _=>k b ob q,λ b ob q _ _ _=>⟨ob.slots,k b ob q⟩,λ _ _ _ n _=>n,λ b ob q _=>⟨ob,k b ob q⟩,λ _ _ q=>q,λ _ _ _ q=>q,λ _ ps q=>⟨#[],by rw[q];simp⟩⟩
theorem Un.refl:Un fs ex H H h h:=Un.kept λ _ _ q=>q
theorem Un.laid (k:∀ b u,h.get? b=some u->h'.get? b=some u)(hp:h.objs.size<=a)(hn:H a=none):Un fs ex H (upd H a o) h h' where
 keep:=λ b u q _ _ _=>k b u q
 slot:=λ b u q _ _ _=>⟨u.slots,k b u q⟩
 free:=λ b u q n _=>by rw[ah (Nat.ne_of_lt (Nat.lt_of_lt_of_le (Heap.lt_size q) hp))];exact n
 there:=λ b u q _=>⟨u,k b u q⟩
 jC:=λ b xs q=>by rw[ah (aF q hn)];exact q
 iF:=λ b u xs q=>by rw[ah (aF q hn)];exact q
 ph:=λ b ps q=>⟨#[],by rw[ah (aF q hn),q];simp⟩
theorem Un.write (mu:JS (H x)) (he:e=x∨H e=some (.own x)) (k:∀ b u,b≠e->h.get? b=some u->h'.get? b=some u)(JL:∃ u,h'.get? e=some u):Un fs ex H (upd H x o) h h':=by
 have hx:∀ b,H b=none->b≠x:=λ b n z=>by subst z;rw[n]at mu;exact mu
 have hb:∀ b,H b=none->b≠e:=λ b n z=>by
  subst z
  rcases he with r|r
  ·exact hx b n r
  ·rw[n]at r;cases r
 have hm:∀ b u,H b=some u->¬ JS (some u)->b≠x:=λ b u q nm z=>by subst z;rw[q]at mu;exact nm mu
 refine⟨λ b u q n _ _=>k b u (hb b n) q,λ b u q n _ _=>⟨u.slots,k b u (hb b n) q⟩,λ b u q n _=>by rw[ah (hx b n)];exact n,λ b u q _=>?_,
  λ b xs q=>by rw[ah (hm b _ q λ z=>z)];exact q,λ b u xs q=>by rw[ah (hm b _ q λ z=>z)];exact q,λ b ps q=>⟨#[],by rw[ah (hm b _ q λ z=>z),q];simp⟩⟩
 by_cases E2:b=e
 ·subst E2;exact JL
 ·exact⟨u,k b u E2 q⟩
end
def Cz (h:Heap)(H:Hp):List Addr:=(List.range h.objs.size).filter λ a=>(H a).isSome
def s_ (h:Heap)(H:Hp):Heap:=PySem.W.hideAll h (Cz h H)
theorem yx (h:Heap)(H:Hp):(s_ h H).objs.size=h.objs.size:=PySem.W.hideAll_size _ _
theorem Bw {h:Heap}{H:Hp}{b:Addr}{o:Obj}(e:h.get? b=some o)(n:H b=none):(s_ h H).get? b=some o:=
 PySem.W.hideAll_get _ e λ hm=>by
  have q:(H b).isSome=true:=(List.mem_filter.mp hm).2
  rw[n]at q;simp at q
theorem D7 {h:Heap}{H:Hp}{b:Addr}{o:Obj}(e:(s_ h H).get? b=some o):h.get? b=some o/\H b=none:=by
 have e':h.get? b=some o:=PySem.W.of_hideAll (Cz h H) e
 refine⟨e',?_⟩
 cases q:H b with
 | none=>rfl
 | some x=>
  have hm:b∈Cz h H:=List.mem_filter.mpr ⟨List.mem_range.mpr (Heap.lt_size e'),by simp[q]⟩
  have z:(s_ h H).get? b=none:=PySem.W.hideAll_none (Cz h H) hm
  rw[z]at e;cases e
def tY (g h:Heap)(L:Addr):List (Addr × Obj):=(List.range h.objs.size).filterMap λ a=>if a=L∨(g.get? a).isSome=true then none else (h.get? a).map λ o=>(a,o)
theorem nU {g h:Heap}{L a:Addr}{o:Obj}(h1:a≠L)(h2:g.get? a=none)(h3:h.get? a=some o):(a,o)∈tY g h L:=
 List.mem_filterMap.mpr ⟨a,List.mem_range.mpr (Heap.lt_size h3),by simp[h1,h2,h3]⟩
theorem pM {g h:Heap}{L:Addr}{p:Addr × Obj}(hp:p∈tY g h L):p.1≠L/\g.get? p.1=none/\h.get? p.1=some p.2:=by
 obtain⟨b,_,e⟩:=List.mem_filterMap.mp hp
 split at e
 ·cases e
 ·rename_i hn
  cases q:h.get? b with
  | none=>rw[q]at e;simp at e
  | some u=>
   rw[q]at e
   simp only[Option.map_some,Option.some.injEq]at e
   subst e
   refine⟨λ z=>hn (.inl z),?_,q⟩
   show g.get? b=none
   cases r:g.get? b with
   | none=>rfl
   | some v=>exact(hn (.inr (by simp[r]))).elim
theorem AH {g h:Heap}{L:Addr}:News g L h (tY g h L):=λ p hp=>let ⟨a,b,c⟩:=pM hp;⟨c,a,b⟩
end L2
namespace L2
open PySem PySem.Spec PyProof.Rows
structure Mod (K:PySem.W.Frag)(mg:Str->Option Value)(base:Heap):Prop where
 LB:K.In base
 glob:base.Ns mainGlobals mg
 blt:∃ mb,base.Ns builtinsNs mb/\∀ x:Str,x≠"__name__"->mb x=bootBuiltins x
 nolimit:base.NoLimit
 AB:base.NoDigits
 bmain:∃ bm ob,mg "__builtins__"=some (.ref bm)/\bm≠builtinsNs/\base.get? bm=some ob/\ob.cls=.type "module"/\ob.dict=some builtinsNs/\ob.data=.plain
structure Cx where
 prog:Program
 w:World
 K:PySem.W.Frag
 mg:Str->Option Value
 base:Heap
 A:Around
 N:List Str
 gS:Shared
 wt:Hp
 env:Env
 outer:List Env
 stack:List Env
 ex:List Addr
 fn:Str->Bool
 calm:Bool
 pn:List (Addr × Obj)
 xe:Value->Shared->Prop
def ub (l:List Env):List Addr:=l.filterMap (·.frame)
abbrev Cx.fs (X:Cx):List Addr:=ub X.outer
def Qn (sc:Scope)(x:Str):Prop:=sc.names.lookup x=some .local∨sc.names.lookup x=some .cell∨sc.names.lookup x=some .free
def Loc (sc:Scope)(x:Str):Prop:=sc.names.lookup x=some .local∨sc.names.lookup x=some .cell
def Look (env:Env)(h:Heap)(m:Str->Option Value)(x:Str)(u:Value):Prop:=
 (env.kindOf x=some .local/\m x=some u)∨((env.kindOf x=some .cell∨env.kindOf x=some .free)/\∃ c,env.cells.lookup x=some c/\h.IsCell c (some u))
structure Cx.Ok (X:Cx):Prop where
 mod:Mod X.K X.mg X.base
 kind:X.env.scope.kind=.function
 glob:X.env.globals=mainGlobals
 blt:X.env.builtins=builtinsNs
 above:X.gS.heap.objs.size<=X.env.locals
 inj:∀ x y c,X.env.cells.lookup x=some c->X.env.cells.lookup y=some c->x=y
 has:∀ x,(X.env.kindOf x=some .cell∨X.env.kindOf x=some .free)->∃ c,X.env.cells.lookup x=some c
 Gq:∀ x c,X.fn x=true->X.env.cells.lookup x=some c->X.gS.heap.objs.size<=c
 hd:X.calm=true->X.A.handled=none
 frames:X.A.frames=some X.stack
 GO:X.stack=X.outer∨(X.stack=X.env :: X.outer/\X.env.frame=some X.env.locals)
 Mn:∀ b∈X.ex,b≠X.env.locals/\∀ x c,X.env.cells.lookup x=some c->c≠b
 bs:∀ b o,X.base.get? b=some o->X.gS.heap.get? b=some o/\X.wt b=none
 xA:X.base.objs.size<=X.gS.heap.objs.size
 uB:∀ b o,X.base.get? b=some o->b∉X.ex
 uR:∀ b∈X.ex,b∉X.fs
 lP:X.gS.heap.FunFrames X.base X.outer
 CK:∀ b∈X.fs,X.wt b=none
structure Inv (X:Cx)(pins:List (Addr × Obj)) (σ:List (Option V)) (H:Hp)(s:Shared):Prop where
 ok:X.Ok
 os:s.os=X.gS.os
 bare:AllBare s.gens
 base:Un X.fs X.ex X.wt H X.gS.heap s.heap
 loc:∃ m,s.heap.Ns X.env.locals m/\∀ (i:Nat) (x:Str) (v:V),X.N[i]? = some x->σ[i]? = some (some v)->Qn X.env.scope x->∃ u,RelV v u/\Look X.env s.heap m x u
 cell:∀ x c,X.env.cells.lookup x=some c->∃ v,s.heap.IsCell c v
 free:H X.env.locals=none
 ij:∀ x c,X.env.cells.lookup x=some c->H c=none
 pin:∀ p∈X.pn++pins,s.heap.get? p.1=some p.2/\H p.1=none/\p.1≠X.env.locals/\p.1∉X.fs/\∀ v,p.2.data≠.cell v
 aQ:jG X.prog X.w H s.heap
 len:σ.length=X.N.length
section
variable {X:Cx}{pins:List (Addr × Obj)}{σ:List (Option V)}{H H':Hp}{s:Shared}{h':Heap}
theorem Cx.Ok.OZ (ok:X.Ok){b:Addr}{o:Obj}(e:X.base.get? b=some o):b∉X.fs:=λ hb=>by
 have:=(ok.lP.mem hb).1
 rw[e]at this;cases this
theorem Inv.bs (I:Inv X pins σ H s):∀ b o,X.base.get? b=some o->s.heap.get? b=some o/\H b=none:=λ b o e=>
 ⟨I.base.keep b o (I.ok.bs b o e).1 (I.ok.bs b o e).2 (I.ok.OZ e) (I.ok.uB b o e),I.base.free b o (I.ok.bs b o e).1 (I.ok.bs b o e).2 (I.ok.uB b o e)⟩
theorem Inv.bk (I:Inv X pins σ H s):∀ b o,X.base.get? b=some o->s.heap.get? b=some o:=λ b o e=>(I.bs b o e).1
theorem Inv.mod (I:Inv X pins σ H s):Mod X.K X.mg X.base:=I.ok.mod
theorem Inv.jl (I:Inv X pins σ H s):X.K.In s.heap:=I.ok.mod.LB.keeps I.bk
theorem Inv.fr (I:Inv X pins σ H s):∃ m,Fr X.base X.env.locals s.heap m:=
 let ⟨m,hn,_⟩:=I.loc
 ⟨m,hn,I.bk,Nat.le_trans I.ok.xA I.ok.above⟩
theorem Inv.lt (I:Inv X pins σ H s):X.env.locals < s.heap.objs.size:=let ⟨_,hn,_⟩:=I.loc;hn.lt
theorem Inv.sz (I:Inv X pins σ H s):X.gS.heap.objs.size<=s.heap.objs.size:=Nat.le_trans I.ok.above (Nat.le_of_lt I.lt)
theorem Inv.OY (I:Inv X pins σ H s){a:Addr}(h:s.heap.objs.size<=a):a∉X.fs:=λ hb=>by
 obtain⟨_,o,ho,_⟩:=I.ok.lP.mem hb
 exact absurd (Nat.lt_of_lt_of_le (Heap.lt_size ho) (Nat.le_trans I.sz h)) (Nat.lt_irrefl _)
theorem Inv.B' (I:Inv X pins σ H s):∀ x c,X.env.cells.lookup x=some c->c≠X.env.locals:=λ x c e z=>by
 obtain⟨v,o,ho,hd⟩:=I.cell x c e
 obtain⟨m,⟨o',es,ep,cL,I_,_⟩,_⟩:=I.loc
 rw[z,cL]at ho;cases ho;rw[I_]at hd;cases hd
theorem Inv.lP (I:Inv X pins σ H s):s.heap.FunFrames X.base X.outer:=by
 have all:∀ (l:List Env),(∀ b∈ub l,b∈X.fs)->X.gS.heap.FunFrames X.base l->s.heap.FunFrames X.base l:=by
  intro l
  induction l with
  | nil=>intro _ _;trivial
  | cons env r ih=>
   intro hs hl
   obtain⟨hk,⟨L,o,hf,hn,ho,hd⟩,hr⟩:=hl
   have hL:L∈X.fs:=hs L (by unfold ub;rw[List.filterMap_cons,hf];exact List.mem_cons_self)
   obtain⟨sl,e⟩:=I.base.slot L o ho (I.ok.CK L hL) hL λ z=>I.ok.uR L z hL
   exact⟨hk,⟨L,_,hf,hn,e,hd⟩,ih (λ b hb=>hs b (by unfold ub;rw[List.filterMap_cons,hf];exact List.mem_cons_of_mem _ hb)) hr⟩
 exact all X.outer (λ _ hb=>hb) I.ok.lP
theorem Inv.stack (I:Inv X pins σ H s):s.heap.FunFrames X.base X.stack:=by
 rcases I.ok.GO with e|⟨e,hf⟩
 ·rw[e];exact I.lP
 ·rw[e]
  obtain⟨m,hn,_⟩:=I.loc
  refine .cons (by rw[I.ok.kind];decide) hf hn ?_ I.lP
  exact Heap.get?_none_of_le (Nat.le_trans I.ok.xA I.ok.above)
theorem Inv.vy (I:Inv X pins σ H s):∀ b∈ub X.stack,b∈X.env.locals :: X.fs:=λ b hb=>by
 rcases I.ok.GO with e|⟨e,hf⟩
 ·rw[e]at hb;exact List.mem_cons_of_mem _ hb
 ·rw[e]at hb
  unfold ub at hb
  rw[List.filterMap_cons,hf]at hb
  exact hb
theorem Inv.oO (I:Inv X pins σ H s):∀ b∈ub X.stack,H b=none:=λ b hb=>by
 rcases List.mem_cons.mp (I.vy b hb) with e|hb
 ·rw[e];exact I.free
 ·obtain⟨_,o,ho,_⟩:=I.ok.lP.mem hb
  exact I.base.free b o ho (I.ok.CK b hb) λ z=>I.ok.uR b z hb
theorem Inv.step {g':Array GenState}{t':Nat}{d':Drawn}{ch:List Addr}(I:Inv X pins σ H s)
  (CG:∀ b∈ch,(b∈X.ex∨X.gS.heap.objs.size<=b)/\b≠X.env.locals/\(∀ x c,X.env.cells.lookup x=some c->c≠b)/\∀ p∈X.pn++pins,p.1≠b)
  (keep:∀ b o,b≠X.env.locals->b∉X.fs->b∉ch->s.heap.get? b=some o->H b=none->h'.get? b=some o)
  (slot:∀ b o,b≠X.env.locals->b∈X.fs->b∉ch->s.heap.get? b=some o->H b=none->∃ sl,h'.get? b=some { o with slots:=sl }) (free:∀ b o,b∉ch->s.heap.get? b=some o->H b=none->H' b=none)
  (there:∀ b o,b∉ch->s.heap.get? b=some o->∃ o',h'.get? b=some o')
  (jC:∀ b xs,H b=some (.tup xs)->H' b=some (.tup xs)) (iF:∀ b o u,H b=some (.k9 o u)->H' b=some (.k9 o u)) (ph:∀ b ps,H b=some (.oM ps)->∃ more,H' b=some (.oM (ps++more)))
  (ns:∀ m,s.heap.Ns X.env.locals m->h'.Ns X.env.locals m) (aQ:jG X.prog X.w H' h') (hg:AllBare g') :
  Inv X pins σ H' { s with heap:=h',gens:=g',drawn:=d',toks:=t' }:=by
 have neL:∀ b o,X.gS.heap.get? b=some o->b≠X.env.locals:=λ b o e=>Nat.ne_of_lt (Nat.lt_of_lt_of_le (Heap.lt_size e) I.ok.above)
 have neC:∀ b o,X.gS.heap.get? b=some o->b∉X.ex->b∉ch:=λ b o e hx hb=>by
  rcases(CG b hb).1 with z|z
  ·exact hx z
  ·exact absurd (Nat.lt_of_lt_of_le (Heap.lt_size e) z) (Nat.lt_irrefl _)
 have cellK:∀ x c,X.env.cells.lookup x=some c->∀ v,s.heap.IsCell c v->h'.IsCell c v:=λ x c e v ⟨o,ho,hd⟩=>by
  have K9:c∉ch:=λ z=>(CG c z).2.2.1 x c e rfl
  by_cases hc:c∈X.fs
  ·obtain⟨sl,q⟩:=slot c o (I.B' x c e) hc K9 ho (I.ij x c e)
   exact⟨_,q,hd⟩
  ·exact⟨o,keep c o (I.B' x c e) hc K9 ho (I.ij x c e),hd⟩
 refine⟨I.ok,I.os,hg,⟨λ b o e n hb hx=>?_,λ b o e n hb hx=>?_,λ b o e n hx=>?_,λ b o e hx=>?_,λ b xs e=>jC b xs (I.base.jC b xs e),λ b o xs e=>iF b o xs (I.base.iF b o xs e),λ b ps e=>?_⟩,?_,λ x c e=>?_,?_,λ x c e=>?_,λ p hp=>?_,aQ,I.len⟩
 ·exact keep b o (neL b o e) hb (neC b o e hx) (I.base.keep b o e n hb hx) (I.base.free b o e n hx)
 ·obtain⟨sl,e1⟩:=I.base.slot b o e n hb hx
  obtain⟨Nn,e2⟩:=slot b _ (neL b o e) hb (neC b o e hx) e1 (I.base.free b o e n hx)
  exact⟨Nn,e2⟩
 ·obtain⟨o',e1⟩:=I.base.there b o e hx
  exact free b o' (neC b o e hx) e1 (I.base.free b o e n hx)
 ·obtain⟨o',e1⟩:=I.base.there b o e hx
  exact there b o' (neC b o e hx) e1
 ·obtain⟨m1,e1⟩:=I.base.ph b ps e
  obtain⟨m2,e2⟩:=ph b _ e1
  exact⟨m1++m2,by rw[e2,Array.append_assoc]⟩
 ·obtain⟨m,hn,hl⟩:=I.loc
  refine⟨m,ns m hn,λ i x v e1 e2 e3=>?_⟩
  obtain⟨u,r,l⟩:=hl i x v e1 e2 e3
  refine⟨u,r,?_⟩
  rcases l with l|⟨k,c,e,z⟩
  ·exact .inl l
  ·exact .inr ⟨k,c,e,cellK x c e _ z⟩
 ·obtain⟨v,z⟩:=I.cell x c e
  exact⟨v,cellK x c e v z⟩
 ·obtain⟨m,⟨o,_,_,ho,_⟩,_⟩:=I.loc
  exact free _ o (λ z=>(CG _ z).2.1 rfl) ho I.free
 ·obtain⟨v,o,ho,hd⟩:=I.cell x c e
  exact free c o (λ z=>(CG c z).2.2.1 x c e rfl) ho (I.ij x c e)
 ·obtain⟨e,n,ne,nf,d⟩:=I.pin p hp
  have K9:p.1∉ch:=λ z=>(CG p.1 z).2.2.2 p hp rfl
  exact⟨keep p.1 p.2 ne nf K9 e n,free p.1 p.2 K9 e n,ne,nf,d⟩
theorem Inv.un {t':Nat}(I:Inv X pins σ H s)(u:Un X.fs [] H H' s.heap h')(aQ:jG X.prog X.w H' h'):Inv X pins σ H' { s with heap:=h',toks:=t' }:=by
 obtain⟨m,⟨o,es,ep,ho,r⟩,_⟩:=id I.loc
 obtain⟨sl,hL⟩:=u.any ho I.free (by simp)
 exact I.step (g':=s.gens) (d':=s.drawn) (ch:=[]) (λ _ z=>nomatch z) (λ b o _ hb _ e n=>u.keep b o e n hb (by simp)) (λ b o _ hb _ e n=>u.slot b o e n hb (by simp)) (λ b o _ e n=>u.free b o e n (by simp)) (λ b o _ e=>u.there b o e (by simp)) u.jC u.iF u.ph (λ m' hm=>by
  obtain⟨o',BR,P',cL,r'⟩:=hm
  rw[ho]at cL;cases cL
  exact⟨_,BR,P',hL,r'⟩) aQ I.bare
theorem Inv.call {g':Array GenState}{t':Nat}{d':Drawn}{ch:List Addr}(I:Inv X pins σ H s)(u:Un (ub X.stack) ch H H' s.heap h') (aQ:jG X.prog X.w H' h')(hg:AllBare g')
  (CG:∀ b∈ch,(b∈X.ex∨X.gS.heap.objs.size<=b)/\b≠X.env.locals/\(∀ x c,X.env.cells.lookup x=some c->c≠b)/\∀ p∈X.pn++pins,p.1≠b) :
  Inv X pins σ H' { s with heap:=h',gens:=g',drawn:=d',toks:=t' }:=by
 obtain⟨m,⟨o,es,ep,ho,r⟩,_⟩:=id I.loc
 obtain⟨sl,hL⟩:=u.any ho I.free λ z=>(CG _ z).2.1 rfl
 exact I.step (ch:=ch) CG (λ b o hL hb hc e n=>u.keep b o e n (λ z=>(List.mem_cons.mp (I.vy b z)).elim hL hb) hc) (λ b o _ _ hc e n=>u.any e n hc) (λ b o hc e n=>u.free b o e n hc) (λ b o hc e=>u.there b o e hc) u.jC u.iF u.ph (λ m' hm=>by
  obtain⟨o',BR,P',cL,r'⟩:=hm
  rw[ho]at cL;cases cL
  exact⟨_,BR,P',hL,r'⟩) aQ hg
theorem Inv.turned {t':Nat}{it:Addr}(I:Inv X pins σ H s)(k:∀ b o,b≠it->s.heap.get? b=some o->h'.get? b=some o)(hn:H it=none)(hL:it≠X.env.locals)
  (h1:it∈X.ex∨X.gS.heap.objs.size<=it) (h2:∀ x c,X.env.cells.lookup x=some c->c≠it) (h3:∀ p∈X.pn++pins,p.1≠it):Inv X pins σ H { s with heap:=h',toks:=t' }:=by
 have QL:∀ b u,H b=some u->b≠it:=λ b u e z=>by rw[z,hn]at e;cases e
 refine I.step (g':=s.gens) (d':=s.drawn) (ch:=[it]) (λ b hb=>?_) (λ b o _ _ hc e _=>k b o (λ z=>hc (by simp[z])) e) (λ b o _ _ hc e _=>⟨o.slots,k b o (λ z=>hc (by simp[z])) e⟩) (λ _ _ _ _ n=>n)
  (λ b o hc e=>⟨o,k b o (λ z=>hc (by simp[z])) e⟩) (λ _ _ e=>e) (λ _ _ _ e=>e) (λ b ps e=>⟨#[],by rw[e];simp⟩) (λ m hm=>?_) (λ b u e=>?_) I.bare
 ·have e:b=it:=by simpa using hb
  subst e
  exact⟨h1,hL,h2,h3⟩
 ·obtain⟨o,es,ep,ho,r⟩:=hm
  exact⟨o,es,ep,k _ o (Ne.symm hL) ho,r⟩
 ·refine(I.aQ b u e).lj (λ c v hc q=>k c v ?_ q) (λ _ q=>q) λ _ _ q=>q
  rcases hc with z|z
  ·rw[z];exact QL b u e
  ·exact QL c _ z
theorem Inv.tok (I:Inv X pins σ H s)(t:Nat):Inv X pins σ H { s with toks:=t }:=I.un (h':=s.heap) (t':=t) Un.refl I.aQ
theorem Inv.kept {t':Nat}(I:Inv X pins σ H s)(k:∀ b u,s.heap.get? b=some u->h'.get? b=some u):Inv X pins σ H { s with heap:=h',toks:=t' }:=I.un (Un.kept k) (I.aQ.kept k)
theorem Inv.laid {a:Addr}{o:HO}{t':Nat}(I:Inv X pins σ H s)(k:∀ b u,s.heap.get? b=some u->h'.get? b=some u)(hp:s.heap.objs.size<=a)(new:bQ X.prog X.w (upd H a o) h' a o) :
  Inv X pins σ (upd H a o) { s with heap:=h',toks:=t' }:=I.un (Un.laid k hp (I.aQ.fresh hp)) (I.aQ.laid k hp new)
theorem Inv.write {x e:Addr}{o:HO}{t':Nat}(I:Inv X pins σ H s)(mu:JS (H x)) (he:e=x∨H e=some (.own x)) (k:∀ b u,b≠e->s.heap.get? b=some u->h'.get? b=some u)(JL:∃ u,h'.get? e=some u)
  (new:bQ X.prog X.w (upd H x o) h' x o):Inv X pins σ (upd H x o) { s with heap:=h',toks:=t' }:=I.un (Un.write mu he k JL) (I.aQ.write mu he k JL new)
theorem Inv.wJ {uv:List (Addr × Obj)}(I:Inv X pins σ H s)(h:∀ p∈uv,s.heap.get? p.1=some p.2/\H p.1=none/\p.1≠X.env.locals/\p.1∉X.fs/\∀ v,p.2.data≠.cell v):Inv X uv σ H s:=
 ⟨I.ok,I.os,I.bare,I.base,I.loc,I.cell,I.free,I.ij,λ p hp=>(List.mem_append.mp hp).elim (λ z=>I.pin p (List.mem_append_left _ z)) (h p),I.aQ,I.len⟩
theorem pO {N:List Str}(hN:N.Nodup){i j:Nat}{x:Str}(a:N[i]? = some x)(b:N[j]? = some x):i=j:=by
 obtain⟨h1,e1⟩:=List.getElem?_eq_some_iff.mp a
 obtain⟨h2,e2⟩:=List.getElem?_eq_some_iff.mp b
 exact(List.getElem_inj hN).mp (e1.trans e2.symm)
theorem qR {M:Model}{A:Around}{E:Value->Shared->Prop}{i:Nat}{x:Str}{v:V}{u:Value}{Q:Unit->Shared->Prop}(I:Inv X pins σ H s)(hN:X.N.Nodup)(hi:X.N[i]? = some x)(hx:Loc X.env.scope x)(r:RelV v u)
  (h:∀ s',Inv X pins (σ.set i (some v)) H s'->(∃ a,Heap.SameBut a s.heap s'.heap/\(a=X.env.locals∨X.env.cells.lookup x=some a))->Q () s') (hf:X.fn x=true∨X.env.scope.names.lookup x=some .local:=by first|exact .inl rfl|exact .inr rfl|assumption):wpAny M A (storeName X.env x u) Q E s:=by
 obtain⟨m,hn,hl⟩:=id I.loc
 have Ja:(X.env.scope.kind == .class || (X.env.scope.kind == .module && X.env.locals != X.env.globals))=false:=by rw[I.ok.kind];rfl
 have hiσ:i < σ.length:=by rw[I.len];exact(List.getElem?_eq_some_iff.mp hi).1
 have B':=I.B'
 have tracked:∀ {a:Addr}{h':Heap},(∃ o,s.heap.get? a=some o/\H a=none)->Heap.SameBut a s.heap h'->jG X.prog X.w H h':=λ {a h'} ha hs b ob e=>by
  obtain⟨_,_,F8⟩:=ha
  refine(I.aQ b ob e).lj (λ c w' hc q=>(hs.2 c ?_).trans q) (λ _ q=>q) λ _ _ q=>q
  rintro rfl
  rcases hc with rfl|hc
  ·rw[F8]at e;cases e
  ·rw[F8]at hc;cases hc
 rcases hx with hk|hk
 ·refine wpAny_storeName_local hk hn (λ h' Py hs=>?_) Ja
  obtain⟨oL,_,_,hoL,_⟩:=id hn
  refine h _ ⟨I.ok,I.os,I.bare,⟨λ b o e n hb hx=>?_,λ b o e n hb hx=>?_,I.base.free,λ b o e hx=>?_,I.base.jC,I.base.iF,I.base.ph⟩,⟨_,Py,λ j y v' e1 e2 e3=>?_⟩,λ y c e=>?_,I.free,I.ij,λ p hp=>?_,tracked ⟨oL,hoL,I.free⟩ hs,by simpa using I.len⟩ ⟨_,hs,.inl rfl⟩
  ·exact(hs.2 b (Nat.ne_of_lt (Nat.lt_of_lt_of_le (Heap.lt_size e) I.ok.above))).trans (I.base.keep b o e n hb hx)
  ·obtain⟨sl,e1⟩:=I.base.slot b o e n hb hx
   exact⟨sl,(hs.2 b (Nat.ne_of_lt (Nat.lt_of_lt_of_le (Heap.lt_size e) I.ok.above))).trans e1⟩
  ·obtain⟨o',e1⟩:=I.base.there b o e hx
   exact⟨o',(hs.2 b (Nat.ne_of_lt (Nat.lt_of_lt_of_le (Heap.lt_size e) I.ok.above))).trans e1⟩
  ·by_cases hj:j=i
   ·subst hj
    rw[hi]at e1;cases e1
    rw[List.getElem?_set_self hiσ]at e2
    cases e2
    exact⟨u,r,.inl ⟨hk,by simp⟩⟩
   ·rw[List.getElem?_set_ne (Ne.symm hj)]at e2
    obtain⟨u',r',q⟩:=hl j y v' e1 e2 e3
    refine⟨u',r',?_⟩
    rcases q with⟨k,e⟩|⟨k,c,e,z⟩
    ·refine .inl ⟨k,?_⟩
     have:y≠x:=λ e=>hj (pO hN e1 (e ▸ hi))
     simp[this,e]
    ·exact .inr ⟨k,c,e,z.sameBut hs (B' y c e)⟩
  ·obtain⟨w',z⟩:=I.cell y c e
   exact⟨w',z.sameBut hs (B' y c e)⟩
  ·obtain⟨e,n,ne,nf,d⟩:=I.pin p hp
   exact⟨(hs.2 p.1 ne).trans e,n,ne,nf,d⟩
 ·have PM:X.fn x=true:=by
   rcases hf with z|z
   ·exact z
   ·rw[z]at hk;cases hk
  obtain⟨c,hc⟩:=I.ok.has x (.inl hk)
  obtain⟨w',z⟩:=I.cell x c hc
  refine wpAny_storeName_cell I.ok.kind hk hc z (λ h' Q2 hs=>?_)
  obtain⟨oc,LO,Px⟩:=id z
  refine h { s with heap:=h' } ⟨I.ok,I.os,I.bare,⟨λ b o e n hb hx=>?_,λ b o e n hb hx=>?_,I.base.free,λ b o e hx=>?_,I.base.jC,I.base.iF,I.base.ph⟩,⟨m,hn.sameBut hs (Ne.symm (B' x c hc)),λ j y v' e1 e2 e3=>?_⟩,λ y c' e=>?_,I.free,I.ij,λ p hp=>?_,tracked ⟨oc,LO,I.ij x c hc⟩ hs,by simpa using I.len⟩ ⟨c,hs,.inr hc⟩
  ·exact(hs.2 b (Nat.ne_of_lt (Nat.lt_of_lt_of_le (Heap.lt_size e) (I.ok.Gq x c PM hc)))).trans (I.base.keep b o e n hb hx)
  ·obtain⟨sl,e1⟩:=I.base.slot b o e n hb hx
   exact⟨sl,(hs.2 b (Nat.ne_of_lt (Nat.lt_of_lt_of_le (Heap.lt_size e) (I.ok.Gq x c PM hc)))).trans e1⟩
  ·obtain⟨o',e1⟩:=I.base.there b o e hx
   exact⟨o',(hs.2 b (Nat.ne_of_lt (Nat.lt_of_lt_of_le (Heap.lt_size e) (I.ok.Gq x c PM hc)))).trans e1⟩
  ·by_cases hj:j=i
   ·subst hj
    rw[hi]at e1;cases e1
    rw[List.getElem?_set_self hiσ]at e2
    cases e2
    exact⟨u,r,.inr ⟨.inl hk,c,hc,Q2⟩⟩
   ·rw[List.getElem?_set_ne (Ne.symm hj)]at e2
    obtain⟨u',r',q⟩:=hl j y v' e1 e2 e3
    refine⟨u',r',?_⟩
    rcases q with q|⟨k,c',e,z'⟩
    ·exact .inl q
    ·refine .inr ⟨k,c',e,z'.sameBut hs ?_⟩
     rintro rfl
     exact hj (pO hN e1 (I.ok.inj _ _ _ e hc ▸ hi))
  ·by_cases Q1:c'=c
   ·subst Q1;exact⟨_,Q2⟩
   ·obtain⟨w2,z2⟩:=I.cell y c' e
    exact⟨w2,z2.sameBut hs Q1⟩
  ·obtain⟨e,n,ne,nf,d⟩:=I.pin p hp
   refine⟨(hs.2 p.1 ?_).trans e,n,ne,nf,d⟩
   intro q
   rw[q,LO]at e
   have q':oc=p.2:=Option.some.inj e
   exact d w' (by rw[<-q'];exact Px)
theorem jN {M:Model}{A:Around}{E:Value->Shared->Prop}{i:Nat}{x:Str}{v:V}{u:Value}{Q:Unit->Shared->Prop}(I:Inv X pins σ H s)(hN:X.N.Nodup)(hi:X.N[i]? = some x)(hx:Loc X.env.scope x)(r:RelV v u)
  (h:∀ s',Inv X pins (σ.set i (some v)) H s'->Q () s') (hf:X.fn x=true∨X.env.scope.names.lookup x=some .local:=by first|exact .inl rfl|exact .inr rfl|assumption):wpAny M A (storeName X.env x u) Q E s:=
 qR I hN hi hx r (λ s' I' _=>h s' I') hf
theorem Inv.M7 {s':Shared}{ch:List Addr}(I:Inv X pins σ H s)(ho:s'.os=s.os)(u:Un (ub X.stack) ch H H' s.heap s'.heap) (aQ:jG X.prog X.w H' s'.heap)(hg:AllBare s'.gens)
  (CG:∀ b∈ch,(b∈X.ex∨X.gS.heap.objs.size<=b)/\b≠X.env.locals/\(∀ x c,X.env.cells.lookup x=some c->c≠b)/\∀ p∈X.pn++pins,p.1≠b):Inv X pins σ H' s':=by
 obtain⟨h',g',d',t',o'⟩:=s'
 have e:o'=s.os:=ho
 subst e
 exact I.call (g':=g') (t':=t') (d':=d') u aQ hg CG
end
abbrev XK:=Value->Option Addr->Hp->Prop
abbrev St:=List (Option V)
abbrev VK:=V->Hp->Prop
abbrev TE:=St->Hp->VK->Prop
abbrev TT:=St->Hp->(Bool->Hp->Prop)->Prop
abbrev TA:=St->Hp->(List V->Hp->Prop)->Prop
structure Ends where
 nx:St->Hp->Prop
 rt:VK
 bk:St->Hp->Prop:=λ _ _=>False
 ct:St->Hp->Prop:=λ _ _=>False
abbrev TS:=Ends->St->Hp->Prop
def EP (X:Cx)(pins:List (Addr × Obj)) (σ:St)(Q:VK)(u:Value)(s':Shared):Prop:=∃ v H',Inv X pins σ H' s'/\RelV v u/\Q v H'
def TP (X:Cx)(pins:List (Addr × Obj)) (σ:St)(Q:Bool->Hp->Prop)(b:Bool)(s':Shared):Prop:=∃ H',Inv X pins σ H' s'/\Q b H'
def AP (X:Cx)(pins:List (Addr × Obj)) (σ:St)(Q:List V->Hp->Prop)(us:List Value)(s':Shared):Prop:=∃ vs H',Inv X pins σ H' s'/\Vals vs us/\Q vs H'
def SP (X:Cx)(pins:List (Addr × Obj)) (D:Ends)(f:Flow)(s':Shared):Prop:=
 match f with
 | .next=>∃ σ' H',Inv X pins σ' H' s'/\D.nx σ' H'
 | .brk=>∃ σ' H',Inv X pins σ' H' s'/\D.bk σ' H'
 | .cont=>∃ σ' H',Inv X pins σ' H' s'/\D.ct σ' H'
 | .ret u=>∃ v σ' H',Inv X pins σ' H' s'/\RelV v u/\D.rt v H'
def PE (X:Cx)(e:Expr)(t:TE):Prop:=
 ∀ (pins:List (Addr × Obj)) (s:Shared) (σ:St) (H:Hp) (Q:VK),Inv X pins σ H s->t σ H Q->wpAny (model X.prog X.w) X.A (eval e X.env) (EP X pins σ Q) X.xe s
def PT (X:Cx)(e:Expr)(t:TT):Prop:=
 ∀ (pins:List (Addr × Obj)) (s:Shared) (σ:St) (H:Hp) (Q:Bool->Hp->Prop),Inv X pins σ H s->t σ H Q->wpAny (model X.prog X.w) X.A (isTrue e X.env (eval e X.env)) (TP X pins σ Q) X.xe s
def PW (X:Cx)(e:Expr)(t:TT):Prop:=
 ∀ (whole:Sem Value) (pins:List (Addr × Obj)) (s:Shared) (σ:St) (H:Hp) (Q:Bool->Hp->Prop),Inv X pins σ H s->t σ H Q->wpAny (model X.prog X.w) X.A (isTrue e X.env whole) (TP X pins σ Q) X.xe s
theorem PW.pt {X:Cx}{e:Expr}{t:TT}(h:PW X e t):PT X e t:=h _
def PA (X:Cx)(es:List Expr)(t:TA):Prop:=
 ∀ (pos:Pos) (pins:List (Addr × Obj)) (s:Shared) (σ:St) (H:Hp) (Q:List V->Hp->Prop),Inv X pins σ H s->t σ H Q->wpAny (model X.prog X.w) X.A (spliced (backTo pos (starEach es X.env))) (AP X pins σ Q) X.xe s
def PS (X:Cx)(st:Stmt)(t:TS):Prop:=
 ∀ (pins:List (Addr × Obj)) (s:Shared) (σ:St) (H:Hp) (D:Ends),Inv X pins σ H s->t D σ H->wpAny (model X.prog X.w) X.A (exec st X.env) (SP X pins D) X.xe s
def kA (X:Cx)(st:List Stmt)(t:TS):Prop:=
 ∀ (pins:List (Addr × Obj)) (s:Shared) (σ:St) (H:Hp) (D:Ends),Inv X pins σ H s->t D σ H->wpAny (model X.prog X.w) X.A (execs st X.env) (SP X pins D) X.xe s
theorem bG {α:Type}{t:Sem α}{Q Q':α->Shared->Prop}{M:Model}{A:Around}{E:Value->Shared->Prop}{s:Shared}(h:wpAny M A t Q E s)(hQ:∀ a s,Q a s->Q' a s):wpAny M A t Q' E s:=wpAny_mono h hQ λ _ _ x=>x
end L2
namespace L2
open PySem PySem.Spec PyProof.Rows
section
variable {X:Cx}
theorem bin {a b:Expr}{ta tb:TE}(ha:PE X a ta)(hb:PE X b tb){pins:List (Addr × Obj)}{s:Shared}{σ:St}{H:Hp}{R:V->V->Hp->Prop}(I:Inv X pins σ H s)(h:ta σ H λ x H1=>tb σ H1 λ y H2=>R x y H2)
  {α:Type}{Q:α->Shared->Prop}{f:Value->Value->Sem α}
  (hf:∀ v u s2 x y H2,Inv X pins σ H2 s2->RelV x v->RelV y u->R x y H2->wpAny (model X.prog X.w) X.A (f v u) Q X.xe s2) :
  wpAny (model X.prog X.w) X.A (eval a X.env) (λ v s₁=>wpAny (model X.prog X.w) X.A (eval b X.env) (λ u s₂=>wpAny (model X.prog X.w) X.A (f v u) Q X.xe s₂) X.xe s₁) X.xe s:=by
 refine bG (ha pins s σ H _ I h) λ v s1 ⟨x,H1,I1,r1,q1⟩=>?_
 refine bG (hb pins s1 σ H1 _ I1 q1) λ u s2 ⟨y,H2,I2,r2,q2⟩=>?_
 exact hf v u s2 x y H2 I2 r1 r2 q2
def GG (i:Nat):TE:=λ σ H Q=>∃ v,σ[i]? = some (some v)/\Q v H
def tC (v:V):TE:=λ _ H Q=>Q v H
theorem Hl {i:Nat}{x:Str}{pos:Pos}(hN:X.N[i]? = some x)(hv:Qn X.env.scope x)(hd:(x == ("__debug__":Str))=false:=by decide) (xj:(x == ("__classdict__":Str))=false:=by decide):PE X (.Name x pos) (GG i):=by
 intro pins s σ H Q I h
 obtain⟨v,e,h⟩:=h
 obtain⟨m,hn,hl⟩:=I.loc
 obtain⟨u,r,l⟩:=hl i x v hN e hv
 have fin:EP X pins σ Q u s:=⟨v,H,I,r,h⟩
 rcases l with⟨hk,hm⟩|⟨hk,c,hc,xi⟩
 ·exact wpAny_Name (wpAny_loadName_local I.ok.kind hk hn hm fin) hd
 ·rcases hk with hk|hk
  ·exact wpAny_Name (wpAny_loadName_cell I.ok.kind hk hc xi fin) hd
  ·exact wpAny_Name (wpAny_loadName_free I.ok.kind hk hc xi fin xj) hd
theorem Hs {i j pos}:PE X (.Constant (.int i) j pos) (tC (.int i)):=λ _ _ _ H _ I h=>wpAny_Constant_int ⟨.int i,H,I.tok _,⟨_,rfl⟩,h⟩
theorem KH {b j pos}:PE X (.Constant (.bool b) j pos) (tC (.bl b)):=λ _ _ _ H _ I h=>Constant_bool ⟨.bl b,H,I,rfl,h⟩
theorem Hq {j pos}:PE X (.Constant .none j pos) (tC .az):=λ _ _ _ H _ I h=>Constant_none ⟨.az,H,I,rfl,h⟩
theorem Hm {x j pos}:PE X (.Constant (.str x) j pos) (tC (.str x)):=λ _ _ _ H _ I h=>Calls.Constant_str ⟨.str x,H,I.tok _,⟨_,rfl⟩,h⟩
def Gl (X:Cx)(x:Str):Prop:=X.env.kindOf x=some .globalImplicit
theorem kD {E:Value->Shared->Prop}{pins:List (Addr × Obj)}{s:Shared}{σ:St}{H:Hp}{x:Str}{u:Value}{pos:Pos}{Q:Value->Shared->Prop}(I:Inv X pins σ H s)(hg:Gl X x)(hm:X.mg x=some u)(h:Q u s)
  (hd:(x == ("__debug__":Str))=false:=by decide):wpAny (model X.prog X.w) X.A (eval (.Name x pos) X.env) Q E s:=
 Calls.Name_function_global I.ok.kind hg (Calls.loadGlobal_global (by rw[I.ok.glob];exact I.mod.glob.keeps I.bk) hm h) hd
theorem lH {E:Value->Shared->Prop}{pins:List (Addr × Obj)}{s:Shared}{σ:St}{H:Hp}{x:Str}{u:Value}{pos:Pos}{Q:Value->Shared->Prop}(I:Inv X pins σ H s)(hg:Gl X x)(hm:X.mg x=none)(hv:bootBuiltins x=some u)(h:Q u s)
  (hn:x≠"__name__":=by decide) (hd:(x == ("__debug__":Str))=false:=by decide):wpAny (model X.prog X.w) X.A (eval (.Name x pos) X.env) Q E s:=by
 obtain⟨mb,h1,h2⟩:=I.mod.blt
 exact Calls.Name_function_global I.ok.kind hg (Calls.loadGlobal_builtin (by rw[I.ok.glob];exact I.mod.glob.keeps I.bk) hm (by rw[I.ok.blt];exact h1.keeps I.bk) ((h2 x hn).trans hv) h) hd
theorem sH {x:Str}{v:V}{u:Value}{pos:Pos}(hg:Gl X x)(hm:X.mg x=some u)(r:RelV v u)(hd:(x == ("__debug__":Str))=false:=by decide):PE X (.Name x pos) (tC v):=
 λ _ _ _ H _ I h=>kD I hg hm ⟨v,H,I,r,h⟩ hd
theorem wK {x:Str}{v:V}{u:Value}{pos:Pos}(hg:Gl X x)(hm:X.mg x=none)(hv:bootBuiltins x=some u)(r:RelV v u)(hn:x≠"__name__":=by decide)(hd:(x == ("__debug__":Str))=false:=by decide):PE X (.Name x pos) (tC v):=
 λ _ _ _ H _ I h=>lH I hg hm hv ⟨v,H,I,r,h⟩ hn hd
variable {a b:Expr}{ta tb:TE}{pos:Pos}
def PC (X:Cx)(op:CmpOp)(a b:Expr)(t:TE):Prop:=
 ∀ (pins:List (Addr × Obj)) (s:Shared) (σ:St) (H:Hp) (Q:VK),Inv X pins σ H s->t σ H Q->
  wpAny (model X.prog X.w) X.A (eval a X.env) (λ v s₁=>wpAny (model X.prog X.w) X.A (eval b X.env) (λ u s₂=>wpAny (model X.prog X.w) X.A (compareOp op v u) (EP X pins σ Q) X.xe s₂) X.xe s₁) X.xe s
theorem uC (b:Expr){op:CmpOp}(h:op≠.In)(h2:op≠.NotIn):behindInMarks op b=false:=by
 have e1:(op == CmpOp.In)=false:=by cases op<;>first|rfl|exact absurd rfl h
 have e2:(op == CmpOp.NotIn)=false:=by cases op<;>first|rfl|exact absurd rfl h2
 cases b<;>simp[behindInMarks,e1,e2]
def tB (t:TE):TT:=λ σ H Q=>t σ H λ x H1=>∃ c,x=.bl c/\Q c H1
theorem Hv {op:CmpOp}{t:TE}(h:PC X op a b t)(h1:behindInMarks op b=false:=by first|exact uC _ (by decide) (by decide)|rfl):PE X (.Compare a [op] [b] pos) t:=λ pins s σ H Q I hw=>wpAny_Compare1 (h pins s σ H Q I hw) h1
theorem zU {op:CmpOp}{t:TE}(h:PC X op a b t)(h1:behindInMarks op b=false:=by first|exact uC _ (by decide) (by decide)|rfl):PT X (.Compare a [op] [b] pos) (tB t):=by
 intro pins s σ H Q I hw
 refine wpAny_isTrue_Compare1 (bG (h pins s σ H _ I hw) λ v s1 h1=>bG h1 λ u s2 h2=>bG h2 λ c s3 ⟨x,H1,I1,r1,q1⟩=>?_) h1
 obtain⟨d,rfl,q⟩:=q1
 cases r1
 exact wpAny_truthy_bool ⟨H1,I1,q⟩
variable {tA tB':TT}{rest:List Expr}
def Oj (t u:TT):TT:=λ σ H Q=>t σ H λ c H1=>if c=true then u σ H1 Q else Q false H1
def Rw (t u:TT):TT:=λ σ H Q=>t σ H λ c H1=>if c=true then Q true H1 else u σ H1 Q
def Oa (t:TT):TT:=λ σ H Q=>t σ H λ c H1=>Q (!c) H1
theorem pw_and1 (ha:PT X a tA):PW X (.BoolOp .And [a] pos) tA:=by
 intro wh pins s σ H Q I h
 refine isTrue_and (bG (ha pins s σ H Q I h) λ c s1 e=>?_)
 cases c with
 | true=>exact isTrue_and_nil e
 | false=>exact e
theorem pw_or1 (ha:PT X a tA):PW X (.BoolOp .Or [a] pos) tA:=by
 intro wh pins s σ H Q I h
 refine isTrue_or (bG (ha pins s σ H Q I h) λ c s1 e=>?_)
 cases c with
 | false=>exact isTrue_or_nil e
 | true=>exact e
theorem pw_and (ha:PT X a tA)(hb:PW X (.BoolOp .And (b :: rest) pos) tB'):PW X (.BoolOp .And (a :: b :: rest) pos) (Oj tA tB'):=by
 intro wh pins s σ H Q I h
 refine isTrue_and (bG (ha pins s σ H _ I h) λ c s1 ⟨H1,I1,q1⟩=>?_)
 cases c with
 | true=>exact hb wh pins s1 σ H1 Q I1 q1
 | false=>exact⟨H1,I1,q1⟩
theorem pw_or (ha:PT X a tA)(hb:PW X (.BoolOp .Or (b :: rest) pos) tB'):PW X (.BoolOp .Or (a :: b :: rest) pos) (Rw tA tB'):=by
 intro wh pins s σ H Q I h
 refine isTrue_or (bG (ha pins s σ H _ I h) λ c s1 ⟨H1,I1,q1⟩=>?_)
 cases c with
 | true=>exact⟨H1,I1,q1⟩
 | false=>exact hb wh pins s1 σ H1 Q I1 q1
theorem G9 (ha:PT X a tA):PT X (.UnaryOp .Not a pos) (Oa tA):=by
 intro pins s σ H Q I h
 exact isTrue_not (ha pins s σ H (λ c H1=>Q (!c) H1) I h)
def Ki (ta tb:TE):TE:=λ σ H Q=>ta σ H λ x H1=>∃ c,x=.bl c/\if c=true then tb σ H1 Q else Q (.bl false) H1
def N_ (ta tb:TE):TE:=λ σ H Q=>ta σ H λ x H1=>∃ c,x=.bl c/\if c=true then Q (.bl true) H1 else tb σ H1 Q
def Ka (ta:TE):TE:=λ σ H Q=>ta σ H λ x H1=>∃ c,x=.bl c/\Q (.bl (!c)) H1
theorem Hn {op} {t:TE}(h:PE X a t):PE X (.BoolOp op [a] pos) t:=λ pins s σ H Q I hw=>BoolOp_one (h pins s σ H Q I hw)
theorem Hw (ha:PE X a ta)(hb:PE X (.BoolOp .And (b :: rest) pos) tb):PE X (.BoolOp .And (a :: b :: rest) pos) (Ki ta tb):=by
 intro pins s σ H Q I h
 refine BoolOp_and (bG (ha pins s σ H _ I h) λ v s1 ⟨x,H1,I1,r1,q1⟩=>?_)
 obtain⟨c,rfl,q1⟩:=q1
 cases r1
 refine wpAny_truthy_bool ?_
 cases c with
 | true=>exact hb pins s1 σ H1 Q I1 q1
 | false=>exact⟨.bl false,H1,I1,rfl,q1⟩
theorem KA (ha:PE X a ta)(hb:PE X (.BoolOp .Or (b :: rest) pos) tb):PE X (.BoolOp .Or (a :: b :: rest) pos) (N_ ta tb):=by
 intro pins s σ H Q I h
 refine BoolOp_or (bG (ha pins s σ H _ I h) λ v s1 ⟨x,H1,I1,r1,q1⟩=>?_)
 obtain⟨c,rfl,q1⟩:=q1
 cases r1
 refine wpAny_truthy_bool ?_
 cases c with
 | false=>exact hb pins s1 σ H1 Q I1 q1
 | true=>exact⟨.bl true,H1,I1,rfl,q1⟩
theorem Ho (ha:PE X a ta):PE X (.UnaryOp .Not a pos) (Ka ta):=by
 intro pins s σ H Q I h
 refine UnaryOp_ (bG (ha pins s σ H _ I h) λ v s1 ⟨x,H1,I1,r1,q1⟩=>?_)
 obtain⟨c,rfl,q1⟩:=q1
 cases r1
 exact not_of (wpAny_truthy_bool ⟨.bl (!c),H1,I1,rfl,q1⟩)
def Rx (t:TT)(ta tb:TE):TE:=λ σ H Q=>t σ H λ c H1=>if c=true then ta σ H1 Q else tb σ H1 Q
theorem Aj {c:Expr}(hc:PT X c tA)(ha:PE X a ta)(hb:PE X b tb):PE X (.IfExp c a b pos) (Rx tA ta tb):=by
 intro pins s σ H Q I h
 refine wpAny_IfExp (bG (hc pins s σ H _ I h) λ d s1 ⟨H1,I1,q1⟩=>?_)
 cases d with
 | true=>exact ha pins s1 σ H1 Q I1 q1
 | false=>exact hb pins s1 σ H1 Q I1 q1
end
end L2
namespace L2
open PySem PySem.Spec PyProof.Rows
def fh (K:PySem.W.Frag)(H:Hp)(a:Addr)(xs:List V):Prop:=
 Rd H a (.lst xs)∨
  ∃ (o:Obj) (its:Array Value) (n:Nat),K.lookup a=some o/\o.cls=.type "list"/\o.dict=none/\o.data=.seq its n/\its.size<=sizeLine/\Vals xs its.toList
def hR (K:PySem.W.Frag)(H:Hp)(a:Addr)(xs:List V):Prop:=
 Rd H a (.tup xs)∨
  ∃ (o:Obj) (its:Array Value) (n:Nat),K.lookup a=some o/\o.cls=.type "tuple"/\o.data=.seq its n/\its.size<=sizeLine/\Vals xs its.toList
def Qm:Value->Option V
 | .none=>some .az
 | .bool b=>some (.bl b)
 | .int i _=>some (.int i)
 | .str x _=>some (.str x)
 | .bytes b _=>some (.wd b)
 | .float b _=>some (.Gh b)
 | .ref a=>some (.ref a)
 | .type n=>some (.ty n)
 | _=>none
theorem RelV.abs {x:V}{u:Value}(r:RelV x u):Qm u=some x:=by
 cases x with
 | az=>cases r;rfl
 | bl _=>cases r;rfl
 | int _=>obtain⟨t,rfl⟩:=r;rfl
 | str _=>obtain⟨t,rfl⟩:=r;rfl
 | wd _=>obtain⟨t,rfl⟩:=r;rfl
 | Gh _=>obtain⟨t,rfl⟩:=r;rfl
 | ref _=>cases r;rfl
 | ty _=>cases r;rfl
theorem RelV.inj {x y:V}{u:Value}(r:RelV x u)(q:RelV y u):x=y:=Option.some.inj (r.abs.symm.trans q.abs)
theorem Vals.inj:∀ {xs ys:List V}{us:List Value},Vals xs us->Vals ys us->xs=ys
 | _,_,_,.nil,.nil=>rfl
 | _,_,_,.cons r t,.cons r' t'=>by rw[r.inj r',Vals.inj t t']
section
variable {X:Cx}{pins:List (Addr × Obj)}{σ:St}{H:Hp}{s:Shared}{a:Addr}{xs ys:List V}
theorem fh.of {K:PySem.W.Frag}(h:H a=some (.lst xs)):fh K H a xs:=.inl (.inl h)
theorem hR.of {K:PySem.W.Frag}(h:H a=some (.tup xs)):hR K H a xs:=.inl (.inl h)
theorem Inv.list (I:Inv X pins σ H s)(h:fh X.K H a xs):∃ its:List Value,Vals xs its/\PlainL s.heap a its.toArray/\xs.length<=sizeLine:=by
 rcases h with h|⟨o,its,n,hk,hc,hd,hs,hz,r⟩
 ·obtain⟨z,its,n,r,e⟩:=h.ok I.aQ
  exact⟨its,r,⟨_,n,e,rfl,rfl,rfl⟩,z⟩
 ·refine⟨its.toList,r,⟨o,n,I.jl a o hk,hc,hd,by simpa using hs⟩,?_⟩
  have e:=r.length
  simp only[Array.length_toList]at e
  omega
theorem Inv.tuple (I:Inv X pins σ H s)(h:hR X.K H a xs):∃ its:List Value,Vals xs its/\IsTup s.heap a its.toArray/\xs.length<=sizeLine:=by
 rcases h with h|⟨o,its,n,hk,hc,hs,hz,r⟩
 ·obtain⟨z,its,r,p⟩:=h.ok I.aQ
  exact⟨its,r,p,z⟩
 ·refine⟨its.toList,r,⟨o,I.jl a o hk,hc,n,by simpa using hs⟩,?_⟩
  have e:=r.length
  simp only[Array.length_toList]at e
  omega
theorem Inv.pU (I:Inv X pins σ H s)(h:fh X.K H a xs)(h':fh X.K H a ys):xs=ys:=by
 obtain⟨its,r,⟨o,n,e,_,_,d⟩,_⟩:=I.list h
 obtain⟨its',r',⟨o',n',e',_,_,d'⟩,_⟩:=I.list h'
 rw[e]at e';cases e'
 rw[d]at d'
 injection d' with d1 _
 have:its=its':=by simpa using congrArg Array.toList d1
 subst this
 exact r.inj r'
theorem Inv.mU (I:Inv X pins σ H s)(h:hR X.K H a xs)(h':hR X.K H a ys):xs=ys:=by
 obtain⟨its,r,⟨o,e,_,n,d⟩,_⟩:=I.tuple h
 obtain⟨its',r',⟨o',e',_,n',d'⟩,_⟩:=I.tuple h'
 rw[e]at e';cases e'
 rw[d]at d'
 injection d' with d1 _
 have:its=its':=by simpa using congrArg Array.toList d1
 subst this
 exact r.inj r'
end
section
variable {X:Cx}{pins:List (Addr × Obj)}{σ:St}{H:Hp}{s:Shared}{E:Value->Shared->Prop}
end
section
variable {X:Cx}{st:Stmt}{rest:List Stmt}{t u:TS}{e:Expr}{te:TE}{pos:Pos}
def Kb:TS:=λ D σ H=>D.nx σ H
def N7 (t u:TS):TS:=λ D σ H=>t { D with nx:=u D } σ H
theorem Dy:kA X [] Kb:=λ _ _ σ H _ I h=>wpAny_execs_nil ⟨σ,H,I,h⟩
theorem zV (h1:PS X st t)(h2:kA X rest u):kA X (st :: rest) (N7 t u):=by
 intro pins s σ H D I h
 refine wpAny_execs_cons (bG (h1 pins s σ H { D with nx:=u D } I h) λ f s1 q=>?_)
 cases f with
 | next=>
  obtain⟨σ',H',I',q⟩:=q
  exact h2 pins s1 σ' H' D I' q
 | ret v=>exact q
 | brk=>exact q
 | cont=>exact q
theorem Dx (h1:PS X st t):kA X [st] t:=by
 intro pins s σ H D I h
 refine wpAny_execs_cons (bG (h1 pins s σ H D I h) λ f s1 q=>?_)
 cases f with
 | next=>exact wpAny_execs_nil q
 | ret v=>exact q
 | brk=>exact q
 | cont=>exact q
theorem Inv.quiet {pins:List (Addr × Obj)}{σ:St}{H:Hp}{s:Shared}(I:Inv X pins σ H s):interactive X.env=false:=by simp[interactive,I.ok.kind]
def Ke (te:TE):TS:=λ D σ H=>te σ H λ _ H1=>D.nx σ H1
theorem Dz (he:PE X e te)(hs:swapsWith e none pos.line X.env=pure false:=by rfl):PS X (.Expr e pos) (Ke te):=by
 intro pins s σ H D I h
 exact wpAny_Expr_any (bG (he pins s σ H _ I h) λ v s1 ⟨x,H1,I1,r1,q1⟩=>⟨σ,H1,I1,q1⟩) I.quiet hs
def N8 (te:TE):TS:=λ D σ H=>te σ H D.rt
theorem Hb (he:PE X e te):PS X (.Return (some e) pos) (N8 te):=by
 intro pins s σ H D I h
 exact wpAny_Return_some (bG (he pins s σ H _ I h) λ v s1 ⟨x,H1,I1,r1,q1⟩=>⟨x,σ,H1,I1,r1,q1⟩)
def Od (c:TT)(t u:TS):TS:=λ D σ H=>c σ H λ b H1=>if b=true then t D σ H1 else u D σ H1
theorem Kx {c:Expr}{a b:List Stmt}{tc:TT}(hc:PT X c tc)(ha:kA X a t)(hb:kA X b u):PS X (.If c a b pos) (Od tc t u):=by
 intro pins s σ H D I h
 refine wpAny_If (bG (hc pins s σ H _ I h) λ d s1 ⟨H1,I1,q1⟩=>?_)
 cases d with
 | true=>exact ha pins s1 σ H1 D I1 q1
 | false=>exact hb pins s1 σ H1 D I1 q1
end
abbrev TG:=V->St->Hp->(St->Hp->Prop)->Prop
abbrev FF:=List V->St->Hp->(St->Hp->Prop)->Prop
def PG (X:Cx)(target:Expr)(t:TG):Prop:=
 ∀ (pins:List (Addr × Obj)) (s:Shared) (σ:St) (H:Hp) (v:V) (u:Value) (Q:St->Hp->Prop),Inv X pins σ H s->RelV v u->t v σ H Q->
  wpAny (model X.prog X.w) X.A (assign target X.env u) (λ _ s'=>∃ σ' H',Inv X pins σ' H' s'/\Q σ' H') X.xe s
def xH (X:Cx)(ts:List Expr)(t:FF):Prop:=
 ∀ (pins:List (Addr × Obj)) (s:Shared) (σ:St) (H:Hp) (vs:List V) (us:List Value) (Q:St->Hp->Prop),Inv X pins σ H s->Vals vs us->t vs σ H Q->
  wpAny (model X.prog X.w) X.A (assignInOrder ((assignEach ts X.env).map (·.2)) us) (λ _ s'=>∃ σ' H',Inv X pins σ' H' s'/\Q σ' H') X.xe s
abbrev Jx:=V->V->V->Hp->(Hp->Prop)->Prop
def Jy (X:Cx)(t:Jx):Prop:=
 ∀ (pins:List (Addr × Obj)) (s:Shared) (σ:St) (H:Hp) (o i v:V) (ov iv u:Value) (Q:Hp->Prop),Inv X pins σ H s->RelV o ov->RelV i iv->RelV v u->t o i v H Q->
  wpAny (model X.prog X.w) X.A (setItem ov iv u) (λ _ s'=>∃ H',Inv X pins σ H' s'/\Q H') X.xe s
section
variable {X:Cx}{pos:Pos}
def xm (i:Nat):TG:=λ v σ H Q=>Q (σ.set i (some v)) H
theorem DL {i:Nat}{x:Str}(hN:X.N.Nodup)(hi:X.N[i]? = some x)(hx:Loc X.env.scope x)(hf:X.fn x=true∨X.env.scope.names.lookup x=some .local:=by first|exact .inl rfl|exact .inr rfl|assumption):PG X (.Name x pos) (xm i):=by
 intro pins s σ H v u Q I r h
 exact wpAny_assign_Name (jN I hN hi hx r (λ s' I'=>⟨_,H,I',h⟩) hf)
def P8:FF:=λ vs σ H Q=>vs=[]/\Q σ H
def Mf (t:TG)(u:FF):FF:=λ vs σ H Q=>∃ v r,vs=v :: r/\t v σ H λ σ' H'=>u r σ' H' Q
theorem DK:xH X [] P8:=by
 intro pins s σ H vs us Q I r h
 obtain⟨e,h⟩:=h
 subst e
 cases r
 exact assignInOrder_nil ⟨σ,H,I,h⟩
theorem Ac {e:Expr}{es:List Expr}{t:TG}{u:FF}(h1:PG X e t)(h2:xH X es u)
  (hs:(assignEach (e :: es) X.env).map (·.2)=assign e X.env :: (assignEach es X.env).map (·.2):=by rfl):xH X (e :: es) (Mf t u):=by
 intro pins s σ H vs us Q I r h
 obtain⟨v,vr,e1,h⟩:=h
 subst e1
 cases r with
 | cons r rr=>
  rw[hs]
  refine assignInOrder_cons (bG (h1 pins s σ H _ _ _ I r h) λ _ s1 ⟨σ1,H1,I1,q1⟩=>?_)
  exact h2 pins s1 σ1 H1 _ _ Q I1 rr q1
def P6 (K:PySem.W.Frag)(n:Nat)(t:FF):TG:=λ v σ H Q=>∃ a xs,v=.ref a/\hR K H a xs/\xs.length=n/\t xs σ H Q
theorem Hk {es:List Expr}{k:Nat}{t:FF}{n:Nat}(hc:X.calm=true)(h:xH X es t)
  (hn:(assignEach es X.env).length=n:=by rfl) (vX:(assignEach es X.env).findIdx? (·.1)=none:=by rfl):PG X (.Tuple es k pos) (P6 X.K n t):=by
 intro pins s σ H v u Q I r hw
 obtain⟨a,xs,e1,hq,hl,hw⟩:=hw
 subst e1
 cases r
 obtain⟨its,rv,ht,hz⟩:=I.tuple hq
 refine assign_Tuple_tuple (I.ok.hd hc) ht (by simp[hn,<-hl,rv.length]) vX λ h' hx=>?_
 have I1:Inv X pins σ H { s with heap:=h' }:=I.kept (t':=s.toks) λ b o e=>hx b o (Nat.ne_of_lt (Heap.lt_size e)) e
 exact h pins _ σ H xs _ Q I1 (by simpa using rv) hw
def P7 (to ti:TE)(t:Jx):TG:=λ v σ H Q=>to σ H λ o H1=>ti σ H1 λ i H2=>t o i v H2 λ H3=>Q σ H3
theorem Ad {o i:Expr}{to ti:TE}{t:Jx}(ho:PE X o to)(hi:PE X i ti)(hs:Jy X t)
  (ha:∀ v,assign (.Subscript o i pos) X.env v=(do
   let ov <-holding [v] (eval o X.env)
   let iv <-holding [v,ov] (eval i X.env)
   standAt pos
   holding [v,ov,iv] (setItem ov iv v)
   release [v,ov,iv] []):=by intro _;rfl):PG X (.Subscript o i pos) (P7 to ti t):=by
 intro pins s σ H v u Q I r h
 rw[ha]
 refine wpAny_bind (wpAny_holding (bG (ho pins s σ H _ I h) λ ov s1 ⟨x,H1,I1,r1,q1⟩=>?_))
 refine wpAny_bind (wpAny_holding (bG (hi pins s1 σ H1 _ I1 q1) λ iv s2 ⟨y,H2,I2,r2,q2⟩=>?_))
 refine wpAny_bind (wpAny_standAt (wpAny_bind (wpAny_holding (bG (hs pins s2 σ H2 x y v ov iv u _ I2 r1 r2 r q2) λ _ s3 ⟨H3,I3,q3⟩=>?_))))
 exact wpAny_release ⟨σ,H3,I3,q3⟩
def C4 (te:TE)(g:TG):TS:=λ D σ H=>te σ H λ x H1=>g x σ H1 D.nx
theorem Hg {tg e:Expr}{te:TE}{g:TG}(he:PE X e te)(hg:PG X tg g)(hs:swapsWithSole [tg] e pos.line X.env=pure false:=by rfl)(hw:swappedStores [tg] e X.env=pure none:=by rfl)
  (h1:(assignEach [tg] X.env).map (·.2)=[assign tg X.env]:=by rfl):PS X (.Assign [tg] e pos) (C4 te g):=by
 intro pins s σ H D I h
 refine wpAny_Assign_stores (bG (he pins s σ H _ I h) λ v s1 ⟨x,H1,I1,r1,q1⟩=>?_) hs hw
 rw[h1]
 exact bG (hg pins s1 σ H1 x v _ I1 r1 q1) λ _ s2 q=>q
theorem Ha {i:Nat}{x:Str}{e:Expr}{te:TE}{pos':Pos}(hN:X.N.Nodup)(hi:X.N[i]? = some x)(hx:Loc X.env.scope x)(he:PE X e te)(hs:swapsWith e (some (.Name x pos')) pos.line X.env=pure false:=by rfl) (hf:X.fn x=true∨X.env.scope.names.lookup x=some .local:=by first|exact .inl rfl|exact .inr rfl|assumption) :
  PS X (.Assign [.Name x pos'] e pos) (C4 te (xm i)):=by
 intro pins s σ H D I h
 refine wpAny_Assign_Name (bG (he pins s σ H _ I h) λ v s1 ⟨y,H1,I1,r1,q1⟩=>?_) hs
 exact jN I1 hN hi hx r1 (λ s2 I2=>⟨_,H1,I2,q1⟩) hf
def N9 (i j:Nat)(ta:TA):TS:=λ D σ H=>ta σ H λ vs H1=>∃ v w,vs=[v,w]/\D.nx ((σ.set i (some v)).set j (some w)) H1
theorem Hc {i j:Nat}{x y:Str}{a b:Expr}{ta:TA}{px py pt:Pos}{kt k2 G'} (hc:X.calm=true)(hN:X.N.Nodup)(hi:X.N[i]? = some x)(hj:X.N[j]? = some y)(qk:i≠j)
  (hx:X.env.scope.names.lookup x=some .local) (hy:X.env.scope.names.lookup y=some .local) (ha:PA X [a,b] ta)
  (hw:swappedStores [.Tuple [.Name x px,.Name y py] kt pt] (.Tuple [a,b] k2 G') X.env=pure (some [x,y]))
  (hs:swapsWithSole [.Tuple [.Name x px,.Name y py] kt pt] (.Tuple [a,b] k2 G') pos.line X.env=pure false:=by rfl) :
  PS X (.Assign [.Tuple [.Name x px,.Name y py] kt pt] (.Tuple [a,b] k2 G') pos) (N9 i j ta):=by
 intro pins s σ H D I h
 rw[exec_Assign_arm]
 refine wpAny_bind (wpAny_standAt ?_)
 rw[hs]
 refine wpAny_bind (wpAny_pure ?_)
 rw[if_neg (by decide)]
 refine wpAny_bind (Tuple_ (bG (ha _ pins s σ H _ I h) λ us s1 ⟨vs,H1,I1,r1,q1⟩=>?_))
 obtain⟨v,w,e1,q1⟩:=q1
 subst e1
 obtain⟨u1,u2,rfl,rv,sA⟩:∃ u1 u2,us=[u1,u2]/\RelV v u1/\RelV w u2:=by
  cases r1 with
  | cons p q=>
   cases q with
   | cons p' q'=>
    cases q'
    exact⟨_,_,rfl,p,p'⟩
 refine wpAny_newObj_type ?_ (by show 2<=sizeLine;decide)
 have I2:Inv X pins σ H1 { s1 with heap:=s1.heap.push { cls:=.type "tuple",data:=.seq [u1,u2].toArray } }:=I1.kept (t':=s1.toks) λ b o e=>Heap.get?_push_of_some _ e
 rw[hw]
 refine wpAny_bind (wpAny_pure ?_)
 show wpAny (model X.prog X.w) X.A (do rule "assign.swapped-stores";let items <-unpackItems (.ref s1.heap.objs.size) 2 none;assignInOrder [λ v=>bindName X.env y v,λ v=>bindName X.env x v] items.reverse;pure Flow.next) _ _ _
 refine wpAny_bind (wpAny_rule (wpAny_bind (unpackItems_tuple (items:=#[u1,u2]) (I.ok.hd hc) (IsTup.new s1.heap _) λ h' EU=>?_)))
 have I3:=I2.kept (h':=h') (t':=s1.toks) λ b o e=>EU b o (Nat.ne_of_lt (Heap.lt_size e)) e
 show wpAny _ _ (assignInOrder [λ v=>bindName X.env y v,λ v=>bindName X.env x v] [u2,u1] >>= λ _=>pure Flow.next) _ _ _
 refine wpAny_bind (assignInOrder_cons (wpAny_bindName (jN I3 hN hj (.inl hy) sA (λ s2 I4=>?_) (.inr hy))))
 refine assignInOrder_cons (wpAny_bindName (jN I4 hN hi (.inl hx) rv (λ s3 I5=>assignInOrder_nil (wpAny_pure ?_)) (.inr hx)))
 rw[List.set_comm _ _ (Ne.symm qk)]at I5
 exact⟨_,H1,I5,q1⟩
end
section
variable {X:Cx}{pos:Pos}
def GF (c:TT)(tb:TS):TS:=λ D σ H=>∃ W:Nat->St->Hp->Prop,(∃ m,W m σ H)/\∀ m σ H,W m σ H->
 c σ H λ b H1=>if b=true then ∃ N:St->Hp->Prop,(∀ σ' H',N σ' H'->∃ m',m' < m/\W m' σ' H')/\tb { D with nx:=N,ct:=N,bk:=D.nx } σ H1 else D.nx σ H1
theorem zW {c:Expr}{body:List Stmt}{tc:TT}{tb:TS}(hp:PassesOwn (model X.prog X.w) X.A X.env X.xe) (hc:PT X c tc)(hb:kA X body tb):PS X (.While c body [] pos) (GF tc tb):=by
 intro pins s σ H D I h
 obtain⟨W,⟨m0,w0⟩,turn⟩:=h
 refine wpAny_While (codeAny_whileLoop (λ n s'=>∃ σ' H',Inv X pins σ' H' s'/\W n σ' H') ?_ m0 ⟨σ,H,I,w0⟩)
 rintro n s1 ⟨σ1,H1,I1,w1⟩
 refine wpAny_passesOwn hp (bG (hc pins s1 σ1 H1 _ I1 (turn n σ1 H1 w1)) λ b s2 ⟨H2,I2,q2⟩=>?_)
 cases b with
 | true=>
  obtain⟨N,hN,q2⟩:=q2
  rw[if_pos rfl]
  refine wpAny_passesOwn hp (bG (hb pins s2 σ1 H2 _ I2 q2) λ f s3 q3=>?_)
  cases f with
  | next=>
   obtain⟨σ3,H3,I3,n3⟩:=q3
   obtain⟨m',hm,w3⟩:=hN σ3 H3 n3
   exact⟨m',hm,σ3,H3,I3,w3⟩
  | cont=>
   obtain⟨σ3,H3,I3,n3⟩:=q3
   obtain⟨m',hm,w3⟩:=hN σ3 H3 n3
   exact⟨m',hm,σ3,H3,I3,w3⟩
  | brk=>exact q3
  | ret v=>exact q3
 | false=>
  rw[if_neg Bool.false_ne_true]
  exact wpAny_execs_nil ⟨σ1,H2,I2,q2⟩
end
structure It where
 go:Nat->Hp->Prop
 CQ:Nat->Hp->V->Hp->Prop
 stop:Nat->Hp->Prop
def qI (X:Cx)(pins:List (Addr × Obj)) (H:Hp)(b:Addr):Prop:=
 H b=none/\b≠X.env.locals/\b∉X.fs/\(b∈X.ex∨X.gS.heap.objs.size<=b)/\(∀ x c,X.env.cells.lookup x=some c->c≠b)/\∀ p∈X.pn++pins,p.1≠b
theorem Inv.v8 {X:Cx}{pins:List (Addr × Obj)}{σ:St}{H H':Hp}{s:Shared}{b:Addr}(I:Inv X pins σ H s)(hb:s.heap.objs.size<=b)(hn:H' b=none):qI X pins H' b:=by
 refine⟨hn,Nat.ne_of_gt (Nat.lt_of_lt_of_le I.lt hb),I.OY hb,.inr (Nat.le_trans I.sz hb),λ x c e z=>?_,λ p hp z=>?_⟩
 ·obtain⟨v,q⟩:=I.cell x c e
  exact absurd (Nat.lt_of_lt_of_le q.lt (by rw[z];exact hb)) (Nat.lt_irrefl _)
 ·exact absurd (Nat.lt_of_lt_of_le (Heap.lt_size (I.pin p hp).1) (by rw[z];exact hb)) (Nat.lt_irrefl _)
structure Turn (P:Program)(w:World)(K:PySem.W.Frag)(tg:Expr)(J:It)(fp:List Addr)(it:Addr)(tn:Nat->Heap->Prop):Prop where
 mem:it∈fp
 obj:∀ i h,tn i h->∀ b∈fp,∃ o,h.get? b=some o/\∀ v,o.data≠.cell v
 keep:∀ i h h',tn i h->(∀ b∈fp,∀ o,h.get? b=some o->h'.get? b=some o)->tn i h'
 item:∀ (X:Cx),X.prog=P->X.w=w->X.K=K->X.calm=true->∀ (i:Nat) (pins:List (Addr × Obj)) (s:Shared) (σ:St) (H:Hp) (E:Value->Shared->Prop),Inv X pins σ H s->(∀ b∈fp,qI X pins H b)->tn i s.heap->J.go i H->
  wpAny (model P w) X.A (pyNext (.ref it)) (λ r s1=>∃ u,r=some u/\
   wpAny (model P w) X.A (letOwnedTupleGo tg (.ref it) u) (λ _ s2=>∃ x H',Inv X pins σ H' s2/\RelV x u/\J.CQ i H x H'/\tn (i+1) s2.heap/\∀ b∈fp,H' b=none) E s1) E s
 done:∀ (X:Cx),X.prog=P->X.w=w->X.K=K->X.calm=true->∀ (i:Nat) (pins:List (Addr × Obj)) (s:Shared) (σ:St) (H:Hp) (E:Value->Shared->Prop),Inv X pins σ H s->(∀ b∈fp,qI X pins H b)->tn i s.heap->J.stop i H->
  wpAny (model P w) X.A (pyNext (.ref it)) (λ r s1=>r=none/\Inv X pins σ H s1) E s
 self:∀ (A:Around) (i:Nat) (s:Shared) (Q:Value->Shared->Prop) (E:Value->Shared->Prop),tn i s.heap->Q (.ref it) s->wpAny (model P w) A (pyIter (.ref it)) Q E s
abbrev TI:=St->Hp->(It->Hp->Prop)->Prop
def Rj (X:Cx)(pins:List (Addr × Obj)) (σ:St)(tg:Expr)(R:It->Hp->Prop)(Nv:Value)(s2:Shared):Prop:=
 ∃ (it:Addr) (fp:List Addr) (tn:Nat->Heap->Prop) (J:It) (H':Hp),Nv=.ref it/\Inv X pins σ H' s2/\Turn X.prog X.w X.K tg J fp it tn/\tn 0 s2.heap/\(∀ b∈fp,qI X pins H' b)/\R J H'
def PI (X:Cx)(tg iter:Expr)(wi:TI):Prop:=
 ∀ (pins:List (Addr × Obj)) (s:Shared) (σ:St) (H:Hp) (R:It->Hp->Prop),Inv X pins σ H s->wi σ H R->
  wpAny (model X.prog X.w) X.A (eval iter X.env) (λ v s1=>wpAny (model X.prog X.w) X.A (pyIter v) (Rj X pins σ tg R) X.xe s1) X.xe s
theorem BB {M:Model}{A:Around}{E:Value->Shared->Prop}{s:Shared}{tg:Expr}{it:Addr}{u:Value}{o:Obj}{n:String}{vs:Array Value}{Q:Unit->Shared->Prop}(ho:s.heap.get? it=some o)(hc:o.cls=.type n)(hd:o.data=.fields vs)
    (hn:["enumerate","zip","dict_itemiterator","dict_reverseitemiterator","odict_iterator","itertools.zip_longest","itertools.pairwise"].contains n=false) (hQ:Q () s):wpAny M A (letOwnedTupleGo tg (.ref it) u) Q E s:=by
  unfold letOwnedTupleGo
  cases tg<;>first
    | exact wpAny_pure hQ
    | (cases u<;>first
        | exact wpAny_pure hQ
        | (refine wpAny_bind (wpAny_load ho ?_)
           rw[hc,hd]
           show wpAny M A (if (["enumerate","zip","dict_itemiterator","dict_reverseitemiterator","odict_iterator","itertools.zip_longest","itertools.pairwise"].contains n && vs[0]? == some (rawInt _))=true then _ else _) Q E s
           rw[if_neg (by intro h;rw[hn,Bool.false_and]at h;cases h)]
           exact wpAny_pure hQ))
def JV (K:PySem.W.Frag)(a:Addr):It:=
 ⟨λ i H=>∃ xs x,fh K H a xs/\xs[i]? = some x,λ i H x H'=>H'=H/\∀ xs,fh K H a xs->xs[i]? = some x,λ i H=>∃ xs,fh K H a xs/\xs.length<=i⟩
def Nc (K:PySem.W.Frag)(a:Addr):It:=
 ⟨λ i H=>∃ xs x,hR K H a xs/\xs[i]? = some x,λ i H x H'=>H'=H/\∀ xs,hR K H a xs->xs[i]? = some x,λ i H=>∃ xs,hR K H a xs/\xs.length<=i⟩
def JU (lo:Int)(n:Nat):It:=⟨λ i _=>i < n,λ i H x H'=>H'=H/\x=.int (lo+i),λ i _=>n<=i⟩
theorem qP {P:Program}{w:World}{K:PySem.W.Frag}{tg:Expr}(a it:Addr):Turn P w K tg (JV K a) [it] it (λ i h=>h.IsListIter it a i) where
 mem:=by simp
 obj:=λ i h st b hb=>by
  have e:b=it:=by simpa using hb
  subst e
  obtain⟨o,e,c,d⟩:=st
  exact⟨o,e,λ v z=>by rw[d]at z;cases z⟩
 keep:=λ i h h' st k=>st.at λ o e=>k it (by simp) o e
 item:=by
  intro X hP hw hK hc i pins s σ H E I hf st hg
  subst hP hw hK
  obtain⟨xs,x,hq,hx⟩:=hg
  obtain⟨its,rv,p,hz⟩:=I.list hq
  obtain⟨u,hu,ru⟩:=rv.get hx
  obtain⟨f0,f1,f2,f3,f4,f5⟩:=hf it (by simp)
  refine wpAny_pyNext_list_item st p.isList (x:=u) (by simpa using hu) λ h' om sb=>?_
  have I1:Inv X pins σ H { s with heap:=h' }:=I.turned (t':=s.toks) (λ b o hb e=>(sb.2 b hb).trans e) f0 f1 f3 f4 f5
  obtain⟨o,e,c,d⟩:=id om
  exact⟨u,rfl,BB (s:={ s with heap:=h' }) e c d (by decide) ⟨x,H,I1,ru,⟨rfl,λ ys hy=>by rw[I.pU hy hq];exact hx⟩,om,λ b hb=>(hf b hb).1⟩⟩
 done:=by
  intro X hP hw hK hc i pins s σ H E I hf st hg
  subst hP hw hK
  obtain⟨xs,hq,hx⟩:=hg
  obtain⟨its,rv,p,hz⟩:=I.list hq
  obtain⟨f0,f1,f2,f3,f4,f5⟩:=hf it (by simp)
  have hl:=rv.length
  exact wpAny_pyNext_list_end (I.ok.hd hc) st p.isList (by simp;omega) λ h' eb=>⟨rfl,I.turned (t':=s.toks) (λ b o hb e=>eb b o hb e) f0 f1 f3 f4 f5⟩
 self:=λ _ _ _ _ _ st h=>wpAny_pyIter_listiter st h
theorem vt {P:Program}{w:World}{K:PySem.W.Frag}{tg:Expr}(a it:Addr):Turn P w K tg (Nc K a) [it] it (λ i h=>h.IsTupleIter it a i) where
 mem:=by simp
 obj:=λ i h st b hb=>by
  have e:b=it:=by simpa using hb
  subst e
  obtain⟨o,e,c,d⟩:=st
  exact⟨o,e,λ v z=>by rw[d]at z;cases z⟩
 keep:=λ i h h' st k=>st.at λ o e=>k it (by simp) o e
 item:=by
  intro X hP hw hK hc i pins s σ H E I hf st hg
  subst hP hw hK
  obtain⟨xs,x,hq,hx⟩:=hg
  obtain⟨its,rv,p,hz⟩:=I.tuple hq
  obtain⟨u,hu,ru⟩:=rv.get hx
  obtain⟨f0,f1,f2,f3,f4,f5⟩:=hf it (by simp)
  refine wpAny_pyNext_tuple_item st (show s.heap.IsTuple a its.toArray from p) (x:=u) (by simpa using hu) λ h' om sb=>?_
  have I1:Inv X pins σ H { s with heap:=h' }:=I.turned (t':=s.toks) (λ b o hb e=>(sb.2 b hb).trans e) f0 f1 f3 f4 f5
  obtain⟨o,e,c,d⟩:=id om
  exact⟨u,rfl,BB (s:={ s with heap:=h' }) e c d (by decide) ⟨x,H,I1,ru,⟨rfl,λ ys hy=>by rw[I.mU hy hq];exact hx⟩,om,λ b hb=>(hf b hb).1⟩⟩
 done:=by
  intro X hP hw hK hc i pins s σ H E I hf st hg
  subst hP hw hK
  obtain⟨xs,hq,hx⟩:=hg
  obtain⟨its,rv,p,hz⟩:=I.tuple hq
  obtain⟨f0,f1,f2,f3,f4,f5⟩:=hf it (by simp)
  have hl:=rv.length
  exact wpAny_pyNext_tuple_end (I.ok.hd hc) st (show s.heap.IsTuple a its.toArray from p) (by simp;omega) λ h' eb=>⟨rfl,I.turned (t':=s.toks) (λ b o hb e=>eb b o hb e) f0 f1 f3 f4 f5⟩
 self:=λ _ _ _ _ _ st h=>wpAny_pyIter_tupleiter st h
theorem vv {P:Program}{w:World}{K:PySem.W.Frag}{tg:Expr}(it:Addr)(lo:Int)(n:Nat):Turn P w K tg (JU lo n) [it] it (λ i h=>IsRangeIter h it (lo+(i:Nat) * 1) ((n:Int) - (i:Nat)) 1) where
 mem:=by simp
 obj:=λ i h st b hb=>by
  have e:b=it:=by simpa using hb
  subst e
  exact⟨_,st,λ v z=>by
   have z':Data.fields _=Data.cell v:=z
   cases z'⟩
 keep:=λ i h h' st k=>k it (by simp) _ st
 item:=by
  intro X hP hw hK hc i pins s σ H E I hf st hg
  subst hP hw hK
  obtain⟨f0,f1,f2,f3,f4,f5⟩:=hf it (by simp)
  have W:=Walks.range (prog:=X.prog) (w:=X.w) (I.ok.hd hc) it lo 1 n
  refine W.item i s _ _ hg st λ v h' tk hv om kk=>?_
  obtain⟨t,rfl⟩:=hv
  have I1:Inv X pins σ H { s with heap:=h',toks:=tk }:=I.turned (λ b o hb e=>kk b o (by simpa using hb) e) f0 f1 f3 f4 f5
  refine⟨_,rfl,BB (s:={ s with heap:=h',toks:=tk }) (n:="range_iterator") om rfl rfl (by decide) ⟨.int (lo+i),H,I1,⟨t,?_⟩,⟨rfl,rfl⟩,om,λ b hb=>(hf b hb).1⟩⟩
  rw[Int.mul_one]
 done:=by
  intro X hP hw hK hc i pins s σ H E I hf st hg
  subst hP hw hK
  obtain⟨f0,f1,f2,f3,f4,f5⟩:=hf it (by simp)
  exact wpAny_pyNext_range_end (I.ok.hd hc) st (by have:n<=i:=hg;omega) λ h' eb=>⟨rfl,I.turned (t':=s.toks) (λ b o hb e=>eb b o hb e) f0 f1 f3 f4 f5⟩
 self:=λ _ _ _ _ _ st h=>wpAny_pyIter_rangeiter st h
end L2
namespace L2
open PySem PySem.Spec PyProof.Rows
section
variable {X:Cx}{tg:Expr}
def LH (K:PySem.W.Frag)(tl:TE):TI:=λ σ H R=>tl σ H λ x H1=>∃ a,x=.ref a/\(∃ xs,fh K H1 a xs)/\R (JV K a) H1
theorem DI {l:Expr}{tl:TE}(hl:PE X l tl):PI X tg l (LH X.K tl):=by
 intro pins s σ H R I h
 refine bG (hl pins s σ H _ I h) λ v s1 ⟨x,H1,I1,r1,q1⟩=>?_
 obtain⟨a,e,⟨xs,hq⟩,q⟩:=q1
 subst e
 cases r1
 obtain⟨its,rv,p,hz⟩:=I1.list hq
 refine wpAny_pyIter_list p.isList ?_
 refine⟨s1.heap.objs.size,[s1.heap.objs.size],_,_,H1,rfl,I1.kept (t':=s1.toks) λ b o e=>Heap.get?_push_of_some _ e,qP a _,⟨_,Heap.get?_push_size _ rfl,rfl,rfl⟩,λ b hb=>?_,q⟩
 have e:b=s1.heap.objs.size:=by simpa using hb
 subst e
 exact I1.v8 (Nat.le_refl _) (I1.aQ.fresh (Nat.le_refl _))
theorem zO {pins:List (Addr × Obj)}{σ:St}{H:Hp}{s:Shared}{R:It->Hp->Prop}{E:Value->Shared->Prop}{lo hi:Int}{t u v:Tok}{tk:Nat}(I:Inv X pins σ H s)(h1:-(2 ^ 62)<=lo) (h2:lo < 2 ^ 62)(h3:-(2 ^ 62)<=hi) (h4:hi < 2 ^ 62)
  (q:R (JU lo (hi - lo).toNat) H):wpAny (model X.prog X.w) X.A (pyIter (.ref s.heap.objs.size)) (Rj X pins σ tg R) E { s with heap:=s.heap.push { cls:=.type "range",data:=.fields #[.int lo t,.int hi u,.int 1 v] },toks:=tk }:=by
 refine wpAny_pyIter_range (IsRange.new ..) (small_one h1 h2 h3 h4) ?_
 have I1:Inv X pins σ H { s with heap:=s.heap.push { cls:=.type "range",data:=.fields #[.int lo t,.int hi u,.int 1 v] },toks:=tk }:=I.kept λ b o e=>Heap.get?_push_of_some _ e
 refine⟨(s.heap.push { cls:=.type "range",data:=.fields #[.int lo t,.int hi u,.int 1 v] }).objs.size,[(s.heap.push { cls:=.type "range",data:=.fields #[.int lo t,.int hi u,.int 1 v] }).objs.size],_,_,H,rfl,
  I1.kept (t':=tk) λ b o e=>Heap.get?_push_of_some _ e,vv _ lo (hi - lo).toNat,?_,λ b hb=>?_,q⟩
 ·have e1:lo+((0:Nat):Int) * 1=lo:=by simp
  have e2:(((hi - lo).toNat:Nat):Int) - ((0:Nat):Int)=Builtin.Range.rangeSize lo hi 1:=by rw[rangeSize_one];split<;>omega
  show IsRangeIter _ _ (lo+((0:Nat):Int) * 1) ((((hi - lo).toNat:Nat):Int) - ((0:Nat):Int)) 1
  rw[e1,e2]
  exact Heap.get?_push_size _ rfl
 ·have e:b=(s.heap.push { cls:=.type "range",data:=.fields #[.int lo t,.int hi u,.int 1 v] }).objs.size:=by simpa using hb
  subst e
  exact I1.v8 (Nat.le_refl _) (I1.aQ.fresh (Nat.le_refl _))
def LG (ta:TA):TI:=λ σ H R=>ta σ H λ vs H1=>∃ j:Int,vs=[.int j]/\-(2 ^ 62)<=j/\j < 2 ^ 62/\R (JU 0 j.toNat) H1
theorem yd {a:Expr}{ta:TA}{p pos:Pos}(hg:Gl X "range")(hm:X.mg "range"=none)(ha:PA X [a] ta)(hs:starEach [a] X.env=[(false,eval a X.env)]:=by rfl):PI X tg (.Call (.Name "range" p) [a] [] pos) (LG ta):=by
 intro pins s σ H R I h
 refine Call_ (lH I hg hm boot_range (PyProof.Rows.callWith_type1 (bG (ha pos pins s σ H _ I h) λ us s1 ⟨vs,H1,I1,r1,q1⟩=>?_) hs rfl))
 obtain⟨j,e,q1,q2,q⟩:=q1
 subst e
 cases r1 with
 | cons r rr=>
  cases rr
  obtain⟨t,rfl⟩:=r
  exact call_range_1 (zO I1 (by omega) (by omega) q1 q2 (by simpa using q))
def Oe (wi:TI)(g:TG)(tb:TS):TS:=λ D σ H=>wi σ H λ J H1=>∃ W:Nat->Nat->St->Hp->Prop,(∃ m,W 0 m σ H1)/\∀ i m σ H,W i m σ H->
 (J.stop i H/\D.nx σ H)∨(J.go i H/\∃ N:St->Hp->Prop,(∀ σ' H',N σ' H'->∃ m',m' < m/\W (i+1) m' σ' H')/\∀ x H',J.CQ i H x H'->g x σ H' λ σ2 H2=>tb { D with nx:=N,ct:=N,bk:=D.nx } σ2 H2)
def pF (fp:List Addr)(h:Heap):List (Addr × Obj):=fp.filterMap λ b=>(h.get? b).map λ o=>(b,o)
theorem ji {fp:List Addr}{h:Heap}{b:Addr}{o:Obj}(hb:b∈fp)(e:h.get? b=some o):(b,o)∈pF fp h:=List.mem_filterMap.mpr ⟨b,hb,by rw[e];rfl⟩
theorem yi {fp:List Addr}{h:Heap}{p:Addr × Obj}(hp:p∈pF fp h):p.1∈fp/\h.get? p.1=some p.2:=by
 obtain⟨b,hb,e⟩:=List.mem_filterMap.mp hp
 cases q:h.get? b with
 | none=>rw[q]at e;cases e
 | some o=>
  rw[q]at e
  have e':(b,o)=p:=Option.some.inj e
  subst e'
  exact⟨hb,q⟩
theorem Inv.pinned {pins:List (Addr × Obj)}{σ:St}{H:Hp}{s:Shared}{fp:List Addr}(I:Inv X pins σ H s)(hf:∀ b∈fp,qI X pins H b)(ho:∀ b∈fp,∃ o,s.heap.get? b=some o/\∀ v,o.data≠.cell v):Inv X (pins++pF fp s.heap) σ H s:=
 I.wJ λ p hp=>(List.mem_append.mp hp).elim (λ z=>I.pin p (List.mem_append_right _ z)) λ z=>by
  obtain⟨hb,e⟩:=yi z
  obtain⟨f0,f1,f2,_⟩:=hf p.1 hb
  obtain⟨o,e',d⟩:=ho p.1 hb
  rw[e]at e';cases e'
  exact⟨e,f0,f1,f2,d⟩
theorem Inv.lZ {pins pl:List (Addr × Obj)}{σ:St}{H:Hp}{s:Shared}(I:Inv X (pins++pl) σ H s):Inv X pins σ H s:=I.wJ λ p hp=>I.pin p (List.mem_append_right _ (List.mem_append_left _ hp))
theorem He {iter:Expr}{body:List Stmt}{wi:TI}{g:TG}{tb:TS}{pos:Pos}(hp:PassesOwn (model X.prog X.w) X.A X.env X.xe) (hc:X.calm=true)(hi:PI X tg iter wi)(hg:PG X tg g)(hb:kA X body tb)
  (hs:∀ x,foldedSetIterable iter X.env x=pure x:=by intro _;rfl):PS X (.For tg iter body [] pos) (Oe wi g tb):=by
 intro pins s σ H D I h
 refine wpAny_For (bG (hi pins s σ H _ I h) λ v s1 h1=>bG h1 λ Nv s2 h2=>?_) hs
 obtain⟨it,fp,tn,J,H2,e,I2,T,yN,f2,W,⟨m0,w0⟩,turn⟩:=h2
 subst e
 have GP:∀ {H':Hp},(∀ b∈fp,H' b=none)->∀ b∈fp,qI X pins H' b:=λ hn b hb=>⟨hn b hb,(f2 b hb).2⟩
 refine codeAny_forLoop_any (λ n s'=>∃ i σ' H',Inv X pins σ' H' s'/\tn i s'.heap/\(∀ b∈fp,H' b=none)/\W i n σ' H') ?_ m0 ⟨0,σ,H2,I2,yN,λ b hb=>(f2 b hb).1,w0⟩
 rintro n s3 ⟨i,σ3,H3,I3,C6,Q_,w3⟩
 rcases turn i n σ3 H3 w3 with⟨stop,qn⟩|⟨go,N,hN,step⟩
 ·refine wpAny_passesOwn hp (bG (T.done X rfl rfl rfl hc i pins s3 σ3 H3 X.xe I3 (GP Q_) C6 stop) λ r s4 ⟨hr,I4⟩=>?_)
  subst hr
  exact wpAny_execs_nil ⟨σ3,H3,I4,qn⟩
 ·refine wpAny_passesOwn hp (bG (T.item X rfl rfl rfl hc i pins s3 σ3 H3 X.xe I3 (GP Q_) C6 go) λ r s4 ⟨u,hr,h4⟩=>?_)
  subst hr
  refine wpAny_passesOwn hp (bG h4 λ _ s5 ⟨x,H5,I5,r5,y5,JB,NL⟩=>?_)
  have I5':=I5.pinned (GP NL) (T.obj _ _ JB)
  refine wpAny_passesOwn hp (bG (hg _ s5 σ3 H5 x u _ I5' r5 (step x H5 y5)) λ _ s6 ⟨σ6,H6,I6,q6⟩=>?_)
  refine wpAny_passesOwn hp (bG (hb _ s6 σ6 H6 _ I6 q6) λ f s7 q7=>?_)
  have again:∀ {σ7:St}{H7:Hp},Inv X (pins++pF fp s5.heap) σ7 H7 s7->N σ7 H7->∃ m,m < n/\∃ i σ' H',Inv X pins σ' H' s7/\tn i s7.heap/\(∀ b∈fp,H' b=none)/\W i m σ' H':=λ {σ7 H7} I7 n7=>by
   obtain⟨m',hm,w7⟩:=hN σ7 H7 n7
   refine⟨m',hm,i+1,σ7,H7,I7.lZ,T.keep _ _ _ JB λ b hb o e=>(I7.pin (b,o) (List.mem_append_right _ (List.mem_append_right _ (ji hb e)))).1,λ b hb=>?_,w7⟩
   obtain⟨o,e,d⟩:=T.obj _ _ JB b hb
   exact(I7.pin (b,o) (List.mem_append_right _ (List.mem_append_right _ (ji hb e)))).2.1
  cases f with
  | next=>obtain⟨σ7,H7,I7,n7⟩:=q7;exact again I7 n7
  | cont=>obtain⟨σ7,H7,I7,n7⟩:=q7;exact again I7 n7
  | brk=>obtain⟨σ7,H7,I7,q7⟩:=q7;exact⟨σ7,H7,I7.lZ,q7⟩
  | ret v=>obtain⟨x7,σ7,H7,I7,r7,q7⟩:=q7;exact⟨x7,σ7,H7,I7.lZ,r7,q7⟩
end
end L2
namespace L2
open PySem PySem.Spec PyProof.Rows
abbrev R2:=V->V->Hp->VK->Prop
def hU (X:Cx)(f:Value->Value->Sem Value)(r:R2):Prop:=
 ∀ (pins:List (Addr × Obj)) (s:Shared) (σ:St) (H:Hp) (x y:V) (v u:Value) (Q:VK),Inv X pins σ H s->RelV x v->RelV y u->r x y H Q->
  wpAny (model X.prog X.w) X.A (f v u) (EP X pins σ Q) X.xe s
def M_ (X:Cx)(f:Value->Sem Value)(r:V->Hp->VK->Prop):Prop:=
 ∀ (pins:List (Addr × Obj)) (s:Shared) (σ:St) (H:Hp) (x:V) (v:Value) (Q:VK),Inv X pins σ H s->RelV x v->r x H Q->
  wpAny (model X.prog X.w) X.A (f v) (EP X pins σ Q) X.xe s
def dJ (X:Cx)(f:Value)(r:List V->Hp->VK->Prop):Prop:=
 ∀ (pins:List (Addr × Obj)) (s:Shared) (σ:St) (H:Hp) (xs:List V) (us:List Value) (Q:VK),Inv X pins σ H s->Vals xs us->r xs H Q->
  wpAny (model X.prog X.w) X.A (call f us) (EP X pins σ Q) X.xe s
def Qo (X:Cx)(r:V->Hp->(Bool->Hp->Prop)->Prop):Prop:=
 ∀ (pins:List (Addr × Obj)) (s:Shared) (σ:St) (H:Hp) (x:V) (v:Value) (Q:Bool->Hp->Prop),Inv X pins σ H s->RelV x v->r x H Q->
  wpAny (model X.prog X.w) X.A (truthy v) (TP X pins σ Q) X.xe s
def J' (r:R2)(ta tb:TE):TE:=λ σ H Q=>ta σ H λ x H1=>tb σ H1 λ y H2=>r x y H2 Q
def Qv (r:V->Hp->VK->Prop)(ta:TE):TE:=λ σ H Q=>ta σ H λ x H1=>r x H1 Q
def rI (C:Int->Int->Prop)(g:Int->Int->V):R2:=λ x y H Q=>∃ i j,x=.int i/\y=.int j/\C i j/\Q (g i j) H
def JD (g:Int->Int->V):R2:=λ x y H Q=>∃ i j,x=.int i/\y=.int j/\Q (g i j) H
def rU (g:Int->V):V->Hp->VK->Prop:=λ x H Q=>∃ i,x=.int i/\Q (g i) H
section
variable {X:Cx}{a b c:Expr}{ta tb tc:TE}{pos:Pos}
theorem Jt (ha:PE X a ta)(hb:PE X b tb){pins:List (Addr × Obj)}{s:Shared}{σ:St}{H:Hp}{R:V->V->Hp->Prop}(I:Inv X pins σ H s)
  (h:ta σ H λ x H1=>tb σ H1 λ y H2=>R x y H2) {Q:Value->Shared->Prop}{f:Value->Value->Sem Value}
  (hf:∀ v u s2 x y H2,Inv X pins σ H2 s2->RelV x v->RelV y u->R x y H2->wpAny (model X.prog X.w) X.A (f v u) Q X.xe s2) :
  wpAny (model X.prog X.w) X.A (eval a X.env) (λ v s₁=>wpAny (model X.prog X.w) X.A (eval b X.env) (λ u s₂=>wpAny (model X.prog X.w) X.A (f v u) Q X.xe s₂) X.xe s₁) X.xe s:=by
 refine bG (ha pins s σ H _ I h) λ v s1 ⟨x,H1,I1,r1,q1⟩=>?_
 refine bG (hb pins s1 σ H1 _ I1 q1) λ u s2 ⟨y,H2,I2,r2,q2⟩=>?_
 exact hf v u s2 x y H2 I2 r1 r2 q2
theorem KC {op:Operator}{r:R2}(ho:hU X (binaryOp op) r) (ha:PE X a ta)(hb:PE X b tb):PE X (.BinOp a op b pos) (J' r ta tb):=by
 intro pins s σ H Q I h
 exact wpAny_BinOp (Jt ha hb I h λ v u s2 x y H2 I2 rx ry q=>ho pins s2 σ H2 x y v u Q I2 rx ry q)
theorem Kz {op:UnaryOp}{r:V->Hp->VK->Prop}(ho:M_ X (unaryOp op) r) (ha:PE X a ta):PE X (.UnaryOp op a pos) (Qv r ta):=by
 intro pins s σ H Q I h
 exact UnaryOp_ (bG (ha pins s σ H _ I h) λ v s1 ⟨x,H1,I1,r1,q1⟩=>ho pins s1 σ H1 x v Q I1 r1 q1)
theorem Np {f:Value->Value->Sem Value}{C:Int->Int->Prop}{g:Int->Int->Int}
  (rule:∀ (i j:Int) (t u:Tok) (s:Shared) (Q:Value->Shared->Prop) (E:Value->Shared->Prop),C i j->Q (.int (g i j) s.toks) { s with toks:=s.toks+1 }->wpAny (model X.prog X.w) X.A (f (.int i t) (.int j u)) Q E s) :
  hU X f (rI C λ i j=>.int (g i j)):=by
 intro pins s σ H x y v u Q I rx ry h
 obtain⟨i,j,rfl,rfl,hc,q⟩:=h
 obtain⟨t,rfl⟩:=rx
 obtain⟨t',rfl⟩:=ry
 exact rule i j t t' s _ _ hc ⟨.int (g i j),H,I.tok _,⟨_,rfl⟩,q⟩
theorem OO {f:Value->Value->Sem Value}{g:Int->Int->Int}
  (rule:∀ (i j:Int) (t u:Tok) (s:Shared) (Q:Value->Shared->Prop) (E:Value->Shared->Prop),Q (.int (g i j) s.toks) { s with toks:=s.toks+1 }->wpAny (model X.prog X.w) X.A (f (.int i t) (.int j u)) Q E s) :
  hU X f (JD λ i j=>.int (g i j)):=by
 intro pins s σ H x y v u Q I rx ry h
 obtain⟨i,j,rfl,rfl,q⟩:=h
 obtain⟨t,rfl⟩:=rx
 obtain⟨t',rfl⟩:=ry
 exact rule i j t t' s _ _ ⟨.int (g i j),H,I.tok _,⟨_,rfl⟩,q⟩
theorem HF {f:Value->Value->Sem Value}{g:Int->Int->Bool}
  (rule:∀ (i j:Int) (t u:Tok) (s:Shared) (Q:Value->Shared->Prop) (E:Value->Shared->Prop),Q (.bool (g i j)) s->wpAny (model X.prog X.w) X.A (f (.int i t) (.int j u)) Q E s) :
  hU X f (JD λ i j=>.bl (g i j)):=by
 intro pins s σ H x y v u Q I rx ry h
 obtain⟨i,j,rfl,rfl,q⟩:=h
 obtain⟨t,rfl⟩:=rx
 obtain⟨t',rfl⟩:=ry
 exact rule i j t t' s _ _ ⟨.bl (g i j),H,I,rfl,q⟩
def FH (i j:Int):Prop:=0<=j/\j<=1000000/\i.natAbs < 2 ^ 64
theorem HD:hU X (binaryOp .Add) (JD λ i j=>.int (i+j)):=OO λ _ _ _ _ _ _ _ q=>add_int q
theorem DU:hU X (binaryOp .Mod) (rI (λ _ j=>j≠0) λ i j=>.int (i.fmod j)):=Np λ _ _ _ _ _ _ _ hc q=>mod_int' hc q
theorem Hy:hU X (binaryOp .Pow) (rI FH λ i j=>.int (i ^ j.toNat)):=Np λ _ _ _ _ _ _ _ hc q=>pow_int_small hc.1 hc.2.1 hc.2.2 q
theorem Rt {f:Value->Sem Value}{g:Int->Int}
  (rule:∀ (i:Int) (t:Tok) (s:Shared) (Q:Value->Shared->Prop) (E:Value->Shared->Prop),Q (.int (g i) s.toks) { s with toks:=s.toks+1 }->wpAny (model X.prog X.w) X.A (f (.int i t)) Q E s) :
  M_ X f (rU λ i=>.int (g i)):=by
 intro pins s σ H x v Q I rx h
 obtain⟨i,rfl,q⟩:=h
 obtain⟨t,rfl⟩:=rx
 exact rule i t s _ _ ⟨.int (g i),H,I.tok _,⟨_,rfl⟩,q⟩
theorem GC:M_ X (unaryOp .USub) (rU λ i=>.int (-i)):=Rt λ _ _ _ _ _ q=>neg_int q
end
def GU:V->V->Bool
 | .az,.az=>true|.az,.int _=>true|.int _,.az=>true|.az,.bl _=>true|.bl _,.az=>true|.az,.str _=>true|.str _,.az=>true
 | .int _,.int _=>true|.bl _,.bl _=>true|.str _,.str _=>true|.wd _,.wd _=>true
 | .int _,.str _=>true|.str _,.int _=>true|.bl _,.str _=>true|.str _,.bl _=>true
 | _,_=>false
def RH:R2:=λ x y H Q=>GU x y=true/\Q (.bl (decide (x=y))) H
def RG:R2:=λ x y H Q=>GU x y=true/\Q (.bl (!decide (x=y))) H
theorem xr {i j:Int}:decide (V.int i=V.int j)=(i == j):=by
 rw[Bool.eq_iff_iff]
 simp
theorem B3 {i j:Bool}:decide (V.bl i=V.bl j)=(i == j):=by
 rw[Bool.eq_iff_iff]
 simp
theorem xq {i j:Str}:decide (V.str i=V.str j)=(i == j):=by
 rw[Bool.eq_iff_iff]
 simp
theorem xt {i j:Array UInt8}:decide (V.wd i=V.wd j)=(i.toList == j.toList):=by
 rw[Bool.eq_iff_iff]
 cases i
 cases j
 simp
section
variable {X:Cx}{a b c:Expr}{ta tb tc:TE}{pos:Pos}
theorem a8 {pins:List (Addr × Obj)}{σ:St}{H:Hp}{s:Shared}{Q:VK}{k k':Bool}(I:Inv X pins σ H s)(q:Q (.bl k) H) (e:k=k'):EP X pins σ Q (.bool k') s:=by
 subst e
 exact⟨.bl k,H,I,rfl,q⟩
theorem KP:hU X (compareOp .Eq) RH:=by
 intro pins s σ H x y v u Q I rx ry h
 obtain⟨hs,q⟩:=h
 cases x with
 | az=>
  cases rx
  cases y with
  | az=>cases ry;exact PySem.EqNone.eq_none_none (a8 I q (by simp))
  | bl j=>cases ry;exact PySem.EqNone.eq_none_bool (a8 I q (by simp))
  | int j=>obtain⟨t',rfl⟩:=ry;exact PySem.EqNone.eq_none_int (a8 I q (by simp))
  | str j=>obtain⟨t',rfl⟩:=ry;exact PySem.EqNone.eq_none_str (a8 I q (by simp))
  | _=>exact absurd (show false=true from hs) Bool.false_ne_true
 | bl i=>
  cases rx
  cases y with
  | az=>cases ry;exact PySem.EqNone.eq_bool_none (a8 I q (by simp))
  | bl j=>cases ry;exact eq_bool (a8 I q B3)
  | str j=>obtain⟨t',rfl⟩:=ry;exact PySem.EqMixed.eq_bool_str (a8 I q (by simp))
  | _=>exact absurd (show false=true from hs) Bool.false_ne_true
 | int i=>
  obtain⟨t,rfl⟩:=rx
  cases y with
  | az=>cases ry;exact PySem.EqNone.eq_int_none (a8 I q (by simp))
  | int j=>obtain⟨t',rfl⟩:=ry;exact eq_int (a8 I q xr)
  | str j=>obtain⟨t',rfl⟩:=ry;exact PySem.EqMixed.eq_int_str (a8 I q (by simp))
  | _=>exact absurd (show false=true from hs) Bool.false_ne_true
 | str i=>
  obtain⟨t,rfl⟩:=rx
  cases y with
  | az=>cases ry;exact PySem.EqNone.eq_str_none (a8 I q (by simp))
  | bl j=>cases ry;exact PySem.EqMixed.eq_str_bool (a8 I q (by simp))
  | int j=>obtain⟨t',rfl⟩:=ry;exact PySem.EqMixed.eq_str_int (a8 I q (by simp))
  | str j=>obtain⟨t',rfl⟩:=ry;exact eq_str (a8 I q xq)
  | _=>exact absurd (show false=true from hs) Bool.false_ne_true
 | wd i=>
  obtain⟨t,rfl⟩:=rx
  cases y with
  | wd j=>obtain⟨t',rfl⟩:=ry;exact PySem.W.eq_bytes (a8 I q xt)
  | _=>exact absurd (show false=true from hs) Bool.false_ne_true
 | _=>cases y<;>exact absurd (show false=true from hs) Bool.false_ne_true
theorem KJ:hU X (compareOp .NotEq) RG:=by
 intro pins s σ H x y v u Q I rx ry h
 obtain⟨hs,q⟩:=h
 cases x with
 | az=>
  cases rx
  cases y with
  | az=>cases ry;exact PySem.EqNone.ne_none_none (a8 I q (by simp))
  | bl j=>cases ry;exact PySem.EqNone.ne_none_bool (a8 I q (by simp))
  | int j=>obtain⟨t',rfl⟩:=ry;exact PySem.EqNone.ne_none_int (a8 I q (by simp))
  | str j=>obtain⟨t',rfl⟩:=ry;exact PySem.EqNone.ne_none_str (a8 I q (by simp))
  | _=>exact absurd (show false=true from hs) Bool.false_ne_true
 | bl i=>
  cases rx
  cases y with
  | az=>cases ry;exact PySem.EqNone.ne_bool_none (a8 I q (by simp))
  | bl j=>cases ry;exact ne_bool (a8 I q (congrArg not B3))
  | str j=>obtain⟨t',rfl⟩:=ry;exact PySem.EqMixed.ne_bool_str (a8 I q (by simp))
  | _=>exact absurd (show false=true from hs) Bool.false_ne_true
 | int i=>
  obtain⟨t,rfl⟩:=rx
  cases y with
  | az=>cases ry;exact PySem.EqNone.ne_int_none (a8 I q (by simp))
  | int j=>obtain⟨t',rfl⟩:=ry;exact ne_int (a8 I q (congrArg not xr))
  | str j=>obtain⟨t',rfl⟩:=ry;exact PySem.EqMixed.ne_int_str (a8 I q (by simp))
  | _=>exact absurd (show false=true from hs) Bool.false_ne_true
 | str i=>
  obtain⟨t,rfl⟩:=rx
  cases y with
  | az=>cases ry;exact PySem.EqNone.ne_str_none (a8 I q (by simp))
  | bl j=>cases ry;exact PySem.EqMixed.ne_str_bool (a8 I q (by simp))
  | int j=>obtain⟨t',rfl⟩:=ry;exact PySem.EqMixed.ne_str_int (a8 I q (by simp))
  | str j=>obtain⟨t',rfl⟩:=ry;exact ne_str (a8 I q (congrArg not xq))
  | _=>exact absurd (show false=true from hs) Bool.false_ne_true
 | wd i=>
  obtain⟨t,rfl⟩:=rx
  cases y with
  | wd j=>obtain⟨t',rfl⟩:=ry;exact PySem.W.ne_bytes (a8 I q (congrArg not xt))
  | _=>exact absurd (show false=true from hs) Bool.false_ne_true
 | _=>cases y<;>exact absurd (show false=true from hs) Bool.false_ne_true
theorem KL:hU X (compareOp .Lt) (JD λ i j=>.bl (decide (i < j))):=HF λ _ _ _ _ _ _ _ q=>lt_int q
theorem KN:hU X (compareOp .Gt) (JD λ i j=>.bl (decide (j < i))):=HF λ _ _ _ _ _ _ _ q=>gt_int q
theorem KO:hU X (compareOp .GtE) (JD λ i j=>.bl (decide (j<=i))):=HF λ _ _ _ _ _ _ _ q=>ge_int q
theorem yg:hU X (compareOp .Lt) (λ x y H Q=>∃ i j,x=.str i/\y=.str j/\Q (.bl (decide (i.cps.toList < j.cps.toList))) H):=by
 intro pins s σ H x y v u Q I rx ry h
 obtain⟨i,j,rfl,rfl,q⟩:=h
 obtain⟨t,rfl⟩:=rx
 obtain⟨t',rfl⟩:=ry
 exact lt_str (a8 I q rfl)
theorem HA:hU X (compareOp .Is) (λ x y H Q=>y=.az/\Q (.bl (decide (x=.az))) H):=by
 intro pins s σ H x y v u Q I rx ry h
 obtain⟨rfl,q⟩:=h
 cases ry
 refine is_none_gen (a8 I q ?_)
 cases x<;>first
  | (cases rx;rfl)
  | (obtain⟨t,rfl⟩:=rx;rfl)
theorem DR {op:CmpOp}{r:R2}(ho:hU X (compareOp op) r) (ha:PE X a ta)(hb:PE X b tb)(hm:behindInMarks op b=false):PE X (.Compare a [op] [b] pos) (J' r ta tb):=by
 intro pins s σ H Q I h
 exact wpAny_Compare1 (Jt ha hb I h λ v u s2 x y H2 I2 rx ry q=>ho pins s2 σ H2 x y v u Q I2 rx ry q) hm
def J9 (t:TE):TT:=λ σ H Q=>t σ H λ x H'=>∃ k,x=.bl k/\Q k H'
theorem Dw {op:CmpOp}{r:R2}(ho:hU X (compareOp op) r) (ha:PE X a ta)(hb:PE X b tb)(hm:behindInMarks op b=false):PT X (.Compare a [op] [b] pos) (J9 (J' r ta tb)):=by
 intro pins s σ H Q I h
 refine wpAny_isTrue_Compare1 (bG (ha pins s σ H _ I h) λ v s1 ⟨x,H1,I1,r1,q1⟩=>bG (hb pins s1 σ H1 _ I1 q1) λ u s2 ⟨y,H2,I2,r2,q2⟩=>
  bG (ho pins s2 σ H2 x y v u _ I2 r1 r2 q2) λ c s3 ⟨z,H3,I3,r3,k,e,q3⟩=>?_) hm
 subst e
 cases r3
 exact wpAny_truthy_bool ⟨H3,I3,q3⟩
def Jw (K:PySem.W.Frag)(x:V)(H:Hp)(k:Bool):Prop:=
 match x with
 | .az=>k=false
 | .bl b=>k=b
 | .int i=>k=(i != 0)
 | .str y=>y.length<=sizeLine/\k=((y.length:Int) != 0)
 | .wd y=>y.size<=sizeLine/\k=((y.size:Int) != 0)
 | .ref p=>(∃ xs,fh K H p xs/\k=!xs.isEmpty)∨(∃ xs,hR K H p xs/\k=!xs.isEmpty)∨∃ kvs,H p=some (.dK kvs)/\k=!kvs.isEmpty
 | _=>False
theorem vV {κ:Type}{kvs:List (κ × V)}{vs:List (κ × Value)}(r:KV kvs vs):(!vs.isEmpty)=!kvs.isEmpty:=by
 cases r<;>rfl
theorem pX {xs:List V}{its:List Value}(r:Vals xs its):(!its.toArray.isEmpty)=!xs.isEmpty:=by
 cases r<;>simp
theorem jX:(sizeLine:Nat) < 2 ^ 63:=by rw[sizeLine_eq];decide
theorem GD:Qo X (λ x H Q=>∃ k,Jw X.K x H k/\Q k H):=by
 intro pins s σ H x v Q I rx h
 obtain⟨k,e,q⟩:=h
 have hl:=jX
 have hs:sizeLine=16777216:=sizeLine_eq
 cases x with
 | az=>
  cases rx
  have e':k=false:=e
  subst e'
  exact truthy_none ⟨H,I,q⟩
 | bl b=>
  cases rx
  have e':k=b:=e
  subst e'
  exact wpAny_truthy_bool ⟨H,I,q⟩
 | int i=>
  obtain⟨t,rfl⟩:=rx
  have e':k=(i != 0):=e
  subst e'
  exact PySem.P.truthy_int ⟨H,I,q⟩
 | str y=>
  obtain⟨t,rfl⟩:=rx
  obtain⟨hy,e'⟩:y.length<=sizeLine/\k=((y.length:Int) != 0):=e
  subst e'
  exact PySem.P.truthy_str (by omega) ⟨H,I.tok _,q⟩
 | wd y=>
  obtain⟨t,rfl⟩:=rx
  obtain⟨hy,e'⟩:y.size<=sizeLine/\k=((y.size:Int) != 0):=e
  subst e'
  exact PySem.W.truthy_bytes (by omega) ⟨H,I.tok _,q⟩
 | ref p=>
  cases rx
  have e':(∃ xs,fh X.K H p xs/\k=!xs.isEmpty)∨(∃ xs,hR X.K H p xs/\k=!xs.isEmpty)∨∃ kvs,H p=some (.dK kvs)/\k=!kvs.isEmpty:=e
  rcases e' with⟨xs,hx,e'⟩|⟨xs,hx,e'⟩|⟨kvs,hx,e'⟩
  ·subst e'
   obtain⟨its,r,pl,hz⟩:=I.list hx
   have hlen:=r.length
   exact wpAny_truthy_list pl.isList (by simp only[List.size_toArray];omega) ⟨H,I.tok _,by rw[pX r];exact q⟩
  ·subst e'
   obtain⟨its,r,pl,hz⟩:=I.tuple hx
   have hlen:=r.length
   exact truthy_tuple pl (by simp only[List.size_toArray];omega) ⟨H,I.tok _,by rw[pX r];exact q⟩
  ·subst e'
   obtain⟨hz,hS,vs,r,m⟩:kvs.length<=sizeLine/\(p == sysModules)=false/\∃ vs,KV kvs vs/\s.heap.DictOf (bw X.prog X.w) p vs:=I.aQ p _ hx
   have hlen:kvs.length=vs.length:=Paired.length r
   exact wpAny_truthy_dict hS m (by omega) ⟨H,I.tok _,by rw[vV r];exact q⟩
 | _=>exact(show False from e).elim
theorem zS (ha:PE X a ta)(he:∀ whole,isTrue a X.env whole=(do let v <-whole;standAt a.pos;holding [v] (truthy v))) :
  PT X a (λ σ H Q=>ta σ H λ x H'=>∃ k,Jw X.K x H' k/\Q k H'):=by
 intro pins s σ H Q I h
 exact isTrue_plain (bG (ha pins s σ H _ I h) λ v s1 ⟨x,H1,I1,r1,q1⟩=>GD pins s1 σ H1 x v Q I1 r1 q1) (he _)
theorem vI:hU X (binaryOp .Add) (λ x y H Q=>∃ i j,x=.str i/\y=.str j/\i.length+j.length<=sizeLine/\Q (.str (i++j)) H):=by
 intro pins s σ H x y v u Q I rx ry h
 obtain⟨i,j,rfl,rfl,hz,q⟩:=h
 obtain⟨t,rfl⟩:=rx
 obtain⟨t',rfl⟩:=ry
 exact add_str (λ t' tk=>⟨.str (i++j),H,I.tok _,⟨_,rfl⟩,q⟩) hz
theorem vals1 {x:V}{us:List Value}(r:Vals [x] us):∃ u,us=[u]/\RelV x u:=by
 cases r with
 | cons r1 r2=>cases r2;exact⟨_,rfl,r1⟩
theorem vals2 {x y:V}{us:List Value}(r:Vals [x,y] us):∃ u w',us=[u,w']/\RelV x u/\RelV y w':=by
 cases r with
 | cons r1 r2=>
  cases r2 with
  | cons r3 r4=>cases r4;exact⟨_,_,rfl,r1,r3⟩
theorem Ce:dJ X (.builtin "abs") (λ xs H Q=>∃ i,xs=[.int i]/\Q (.int (if i < 0 then -i else i)) H):=by
 intro pins s σ H xs us Q I r h
 obtain⟨i,rfl,q⟩:=h
 obtain⟨u,rfl,t,rfl⟩:=vals1 r
 exact call_abs_int λ u tk=>⟨.int (if i < 0 then -i else i),H,I.tok _,⟨_,rfl⟩,q⟩
end
end L2
namespace L2
open PySem PySem.Spec PyProof.Rows
structure wq (h:Heap)(x dx C:Addr)(mA:Str->Option Value):Prop where
 obj:h.get? x=some (PySem.W.instObj C dx)
 ns:h.Ns1 dx mA
 ne:dx≠x
theorem yk {h:Heap}{dx:Addr}{mA:Str->Option Value}(n:h.Ns1 dx mA):∃ od,h.get? dx=some od/\∀ name,PySem.W.lookIn name od=some (mA name):=by
 obtain⟨o,es,ep,ho,hd,hk,_,hm⟩:=n
 refine⟨o,ho,λ name=>?_⟩
 have e:=hm name
 unfold nsFind findBy at e
 rw[<-Array.find?_toList]at e
 unfold PySem.W.lookIn
 rw[hd]
 dsimp only
 split
 ·rename_i y q
  rw[q]at e
  exact congrArg some e
 ·rename_i q
  rw[q]at e
  have a:es.toList.any (·.refKey)=false:=by
   rw[List.any_eq_false]
   intro y hy
   obtain⟨z,t,PF⟩:=hk y (Array.mem_toList_iff.mp hy)
   simp[DictEntry.refKey,PF]
  have a':¬ es.toList.any (·.refKey)=true:=by rw[a];exact Bool.false_ne_true
  rw[if_neg a']
  exact congrArg some e
theorem wq.look {h:Heap}{x dx C:Addr}{mA:Str->Option Value}(I:wq h x dx C mA):∃ od,PySem.W.InstAt h x (PySem.W.instObj C dx) C (some od)/\∀ name,PySem.W.lookIn name od=some (mA name):=
 let ⟨od,ho,hl⟩:=yk I.ns
 ⟨od,⟨I.obj,rfl,rfl,ho⟩,hl⟩
section
variable {prog:Program}{w:World}{A:Around}{E:Value->Shared->Prop}{s:Shared}{K:PySem.W.Frag}{x dx C f:Addr}{mA:Str->Option Value}{name:Str}{v:Value}
theorem get_map {expr:Bool}{Q:Value->Shared->Prop}(X:K.In s.heap)(I:wq s.heap x dx C mA)(hg:PySem.W.plainGet K C name=true)(hh:PySem.W.hasDictIn K C=true)
  (ha:PySem.W.findIn K (.ref C) name=some none) (hv:mA name=some v) (Nz:PySem.W.handedIn v=true) (h:Q v { s with toks:=s.toks+1 }) :
  wpAny (model prog w) A (getAttr (.ref x) name expr) Q E s:=by
 obtain⟨od,J,hl⟩:=I.look
 exact PySem.W.get_value X J (PySem.W.plainGet_of hg).1 (PySem.W.findObj_own hh ha rfl (by rw[hl,hv])) Nz h
theorem BC {pl:Sem Bool}{Q:Value × List Value->Shared->Prop}(X:K.In s.heap)(I:wq s.heap x dx C mA)(hg:PySem.W.plainGet K C name=true)
  (hf:PySem.W.findIn K (.ref C) name=some (some (.ref f))) (ht:PySem.W.isFn K (.ref f)=true) (hv:mA name=none) (h:Q (.ref f,[.ref x]) s) :
  wpAny (model prog w) A (getMethod (.ref x) name pl) Q E s:=by
 obtain⟨od,J,hl⟩:=I.look
 exact PySem.W.method_fn X J (PySem.W.plainGet_of hg).1 (PySem.W.plainGet_of hg).2 hf (beq_iff_eq.mp ht) (by show(PySem.W.lookIn name od).map (·.isSome)=some false;rw[hl,hv];rfl) h
theorem Dj {ns:List Str}{Q:Unit->Shared->Prop}(X:K.In s.heap)(I:wq s.heap x dx C mA)
  (hs:PySem.W.findIn K (.ref C) "__setattr__"=some (some (.builtin "object.__setattr__"))) (hp:PySem.W.plainOver K C=true) (ht:PySem.W.takerIn K C name=some none) (hh:PySem.W.hasDictIn K C=true)
  (hw:PySem.Within mA ns) (hsz:ns.length<=sizeLine)
  (h:∀ h',wq h' x dx C (λ y=>if y=name then some v else mA y)->Heap.SameBut dx s.heap h'->Q () { s with heap:=h',toks:=s.toks+2 }) :
  wpAny (model prog w) A (setAttr (.ref x) name v) Q E s:=by
 obtain⟨od,J,hl⟩:=I.look
 refine PySem.W.set_plain X J hs (PySem.W.osa_open (s:={ s with toks:=s.toks+1 }) (r:=none) X J hp ht λ b=>?_)
 obtain⟨cd,hc,I_⟩:=PySem.W.any_some hh
 have hx:s.heap.get? x=some ⟨.ref C,some dx,.plain,#[]⟩:=I.obj
 refine wpAny_bind (wpAny_pure (wpAny_bind (wpAny_bind (wpAny_loadPart hx (wpAny_bind (PySem.W.Looks.here (s:={ s with toks:=s.toks+1 }) (PySem.W.looks_clsIn X hc) ?_))))))
 rw[I_]
 refine wpAny_pure (a:=some dx) (wpAny_bind (wpAny_pure (wpAny_bind ?_)))
 refine wpAny_nsSet1 (s:={ s with toks:=s.toks+1 }) I.ns λ h' CF JI=>?_
 obtain⟨oD,esD,epD,hoD,hdD,hcD⟩:=CF.count (PySem.Within.cons name v hw)
 refine wpAny_bind (wpAny_lookBehind hoD (by rw[hdD];exact pastItsLine_dict (Nat.le_trans hcD (by rw[List.length_cons];omega))) ?_)
 exact wpAny_pure (h _ ⟨(JI.2 _ (Ne.symm I.ne)).trans I.obj,CF,I.ne⟩ JI)
theorem A_ {R:Result->Shared->Prop}{vs:List Value}{kw:List (Str × Value)}(X:K.In s.heap)(hm:PySem.W.makesIn K C=true)
  (hi:PySem.W.findIn K (.ref C) "__init__"=some (some (.ref f))) (hf:PySem.W.typeIn K (.ref f)=some (.type "function"))
  (h:codeAny (model prog w) (A.under (.builtin "type.__call__" ⟨.ref C :: vs,kw⟩)) (.call (.ref f) ⟨.ref (s.heap.objs.size+1) :: vs,kw⟩) (PySem.W.InitBack (s.heap.objs.size+1) R)
   { s with heap:=(s.heap.push PySem.W.emptyDict).push (PySem.W.instObj C s.heap.objs.size) }) :
  codeAny (model prog w) A (.call (.ref C) ⟨vs,kw⟩) R s:=by
 obtain⟨hh,g,d,t,os⟩:=s
 exact PySem.W.make_core (PySem.W.makes_of X hm) (PySem.W.looks_findIn X hi) (λ self=>PySem.W.bind_fn X self hf) (.inl rfl) h
end
def jg (f:Str)(v:V):List (Str × V)->List (Str × V)
 | []=>[(f,v)]
 | (g,x) :: r=>if g=f then (g,v) :: r else (g,x) :: jg f v r
theorem nW (f g:Str)(v:V):∀ fs:List (Str × V),(jg f v fs).lookup g=if g=f then some v else fs.lookup g
 | []=>by
  show List.lookup g [(f,v)]=_
  by_cases h:g=f
  ·have hb:(g == f)=true:=beq_iff_eq.mpr h
   simp only[List.lookup,hb,if_pos h]
  ·have hb:(g == f)=false:=beq_eq_false_iff_ne.mpr h
   simp only[List.lookup,hb,if_neg h]
 | (k,x) :: r=>by
  have ih:=nW f g v r
  rw[show jg f v ((k,x) :: r)=(if k=f then (k,v) :: r else (k,x) :: jg f v r) from rfl]
  by_cases hk:k=f
  ·rw[if_pos hk]
   by_cases h:g=k
   ·have hb:(g == k)=true:=beq_iff_eq.mpr h
    simp only[List.lookup,hb,if_pos (h.trans hk)]
   ·have hb:(g == k)=false:=beq_eq_false_iff_ne.mpr h
    simp only[List.lookup,hb,if_neg (λ e:g=f=>h (e.trans hk.symm))]
  ·rw[if_neg hk]
   by_cases h:g=k
   ·have hb:(g == k)=true:=beq_iff_eq.mpr h
    simp only[List.lookup,hb,if_neg (λ e:g=f=>hk (h.symm.trans e))]
   ·have hb:(g == k)=false:=beq_eq_false_iff_ne.mpr h
    simp only[List.lookup,hb]
    exact ih
theorem nu (f:Str)(v:V):∀ fs:List (Str × V),f∈(jg f v fs).map (·.1)/\∀ g,g∈fs.map (·.1)->g∈(jg f v fs).map (·.1)
 | []=>⟨by simp[jg],λ g h=>by simp at h⟩
 | (k,x) :: r=>by
  obtain⟨i1,i2⟩:=nu f v r
  rw[show jg f v ((k,x) :: r)=(if k=f then (k,v) :: r else (k,x) :: jg f v r) from rfl]
  by_cases hk:k=f
  ·rw[if_pos hk]
   subst hk
   exact⟨by simp,λ g h=>by simpa using h⟩
  ·rw[if_neg hk]
   refine⟨?_,λ g h=>?_⟩
   ·rw[List.map_cons]
    exact List.mem_cons_of_mem _ i1
   ·rw[List.map_cons]at h ⊢
    rcases List.mem_cons.mp h with e|e
    ·exact List.mem_cons.mpr (.inl e)
    ·exact List.mem_cons_of_mem _ (i2 g e)
theorem nX (f:Str)(v:V):∀ fs:List (Str × V),(jg f v fs).length<=fs.length+1
 | []=>by simp[jg]
 | (k,x) :: r=>by
  have ih:=nX f v r
  rw[show jg f v ((k,x) :: r)=(if k=f then (k,v) :: r else (k,x) :: jg f v r) from rfl]
  by_cases hk:k=f
  ·rw[if_pos hk,List.length_cons,List.length_cons];omega
  ·rw[if_neg hk,List.length_cons,List.length_cons];omega
theorem jF.some_of {v:V}{o:Option Value}(r:jF (some v) o):∃ u,o=some u/\RelV v u:=by
 cases o with
 | none=>exact(show False from r).elim
 | some u=>exact⟨u,rfl,r⟩
theorem jF.none_of {o:Option Value}(r:jF none o):o=none:=by
 cases o with
 | none=>rfl
 | some u=>exact(show False from r).elim
theorem yy {v:V}{u:Value}(r:RelV v u):PySem.W.handedIn u=true:=by
 cases v with
 | az=>cases (show u=Value.none from r);rfl
 | bl b=>cases (show u=Value.bool b from r);rfl
 | int i=>obtain⟨t,e⟩:=(show ∃ t,u=Value.int i t from r);cases e;rfl
 | str x=>obtain⟨t,e⟩:=(show ∃ t,u=Value.str x t from r);cases e;rfl
 | wd b=>obtain⟨t,e⟩:=(show ∃ t,u=Value.bytes b t from r);cases e;rfl
 | Gh b=>obtain⟨t,e⟩:=(show ∃ t,u=Value.float b t from r);cases e;rfl
 | ref a=>cases (show u=Value.ref a from r);rfl
 | ty n=>cases (show u=Value.type n from r);rfl
section
variable {P:Program}{w:World}{H H':Hp}{h h':Heap}{a C dx:Addr}{fs Mg:List (Str × V)}
theorem oU (aQ:jG P w H h)(e:H a=some (.ins C dx fs)):∃ mA,wq h a dx C mA/\(∀ f,jF (fs.lookup f) (mA f))/\PySem.Within mA (fs.map (·.1))/\fs.length<=1000/\H dx=some (.own a):=by
 obtain⟨d,z,ne,ob,mA,n,r,q⟩:=(show bQ P w H h a (.ins C dx fs) from aQ a _ e)
 exact⟨mA,⟨ob,n,ne⟩,r,q,z,d⟩
end
structure vh (K:PySem.W.Frag)(C:Addr):Prop where
 pg:PySem.W.plainGet K C Str.empty=true
 hd:PySem.W.hasDictIn K C=true
 po:PySem.W.plainOver K C=true
 sa:PySem.W.findIn K (.ref C) "__setattr__"=some (some (.builtin "object.__setattr__"))
theorem vh.get {K:PySem.W.Frag}{C:Addr}(c:vh K C)(f:Str):PySem.W.plainGet K C f=true:=c.pg
def iP (K:PySem.W.Frag)(C:Addr)(f:Str):Prop:=PySem.W.findIn K (.ref C) f=some none
theorem iP.J8 {K:PySem.W.Frag}{C:Addr}{f:Str}(n:iP K C f):PySem.W.takerIn K C f=some none:=by
 unfold PySem.W.takerIn
 rw[show PySem.W.findIn K (.ref C) f=some none from n]
 rfl
structure Meth (K:PySem.W.Frag)(C:Addr)(m:Str)(f:Addr):Prop where
 at_:PySem.W.findIn K (.ref C) m=some (some (.ref f))
 fn:PySem.W.isFn K (.ref f)=true
 kp:PySem.W.keepIn K (.ref f)=true
section
variable {X:Cx}{pins:List (Addr × Obj)}{σ:St}{H:Hp}{s:Shared}{a C dx:Addr}{fs:List (Str × V)}{f:Str}{v:V}{A:Around}{E:Value->Shared->Prop}
theorem v7 {b:Bool}{Q:Value->Shared->Prop}(I:Inv X pins σ H s)(e:H a=some (.ins C dx fs)) (c:vh X.K C)(n:iP X.K C f)(l:fs.lookup f=some v)
  (h:∀ u s',Inv X pins σ H s'->RelV v u->Q u s'):wpAny (model X.prog X.w) A (getAttr (.ref a) f b) Q E s:=by
 obtain⟨mA,O,r,_,_,_⟩:=oU I.aQ e
 obtain⟨u,hu,ru⟩:=jF.some_of (v:=v) (o:=mA f) (by rw[<-l];exact r f)
 exact get_map I.jl O (c.get f) c.hd n hu (yy ru) (h u _ (I.tok _) ru)
theorem lL {m:Str}{g:Addr}{pl:Sem Bool}{Q:Value × List Value->Shared->Prop}(I:Inv X pins σ H s)(e:H a=some (.ins C dx fs)) (c:vh X.K C)(k:Meth X.K C m g)(l:fs.lookup m=none)
  (h:Q (.ref g,[.ref a]) s):wpAny (model X.prog X.w) A (getMethod (.ref a) m pl) Q E s:=by
 obtain⟨mA,O,r,_,_,_⟩:=oU I.aQ e
 have hn:mA m=none:=jF.none_of (by rw[<-l];exact r m)
 exact BC I.jl O (c.get m) k.at_ k.fn hn h
theorem vA {y:V}{u:Value}{Q:Unit->Shared->Prop}(I:Inv X pins σ H s)(e:H a=some (.ins C dx fs)) (c:vh X.K C)(n:iP X.K C f)(hl:fs.length < 1000)(ry:RelV y u)
  (h:∀ s',Inv X pins σ (upd H a (.ins C dx (jg f y fs))) s'->Q () s'):wpAny (model X.prog X.w) A (setAttr (.ref a) f u) Q E s:=by
 obtain⟨mA,O,r,wi,_,ho⟩:=oU I.aQ e
 have hz:(fs.map (·.1)).length<=sizeLine:=by rw[List.length_map,sizeLine_eq];omega
 refine Dj I.jl O c.sa c.po n.J8 c.hd wi hz λ h' O' sb=>h _ ?_
 have hd:∃ o,h'.get? dx=some o:=let ⟨o,_,_,e',_⟩:=O'.ns;⟨o,e'⟩
 refine I.write (x:=a) (e:=dx) (by rw[e];exact True.intro) (.inr ho) (λ b q hb z=>(sb.2 b hb).trans z) hd ?_
 refine⟨by rw[ah O.ne];exact ho,?_,O.ne,O'.obj,_,O'.ns,λ g=>?_,λ g hg=>?_⟩
 ·have:=nX f y fs;omega
 ·show jF ((jg f y fs).lookup g) (if g=f then some u else mA g)
  rw[nW]
  by_cases q:g=f
  ·rw[if_pos q,if_pos q];exact ry
  ·rw[if_neg q,if_neg q];exact r g
 ·by_cases q:g=f
  ·rw[q];exact(nu f y fs).1
  ·refine(nu f y fs).2 g (wi g λ z=>hg ?_)
   show(if g=f then some u else mA g)=none
   rw[if_neg q];exact z
theorem Inv.made (I:Inv X pins σ H s):Inv X pins σ (upd (upd H s.heap.objs.size (.own (s.heap.objs.size+1))) (s.heap.objs.size+1) (.ins C s.heap.objs.size []))
  { s with heap:=(s.heap.push PySem.W.emptyDict).push (PySem.W.instObj C s.heap.objs.size) }:=by
 have e1:(s.heap.push PySem.W.emptyDict).get? s.heap.objs.size=some PySem.W.emptyDict:=Heap.get?_push_size s.heap rfl
 have e2:((s.heap.push PySem.W.emptyDict).push (PySem.W.instObj C s.heap.objs.size)).get? (s.heap.objs.size+1)=some (PySem.W.instObj C s.heap.objs.size):=by
  have:=Heap.get?_push_size (s.heap.push PySem.W.emptyDict) (o:=PySem.W.instObj C s.heap.objs.size) rfl
  rwa [Heap.size_push]at this
 have e3:(s.heap.push PySem.W.emptyDict).Ns s.heap.objs.size (λ _=>none):=⟨PySem.W.emptyDict,#[],_,e1,rfl,(λ e he=>absurd he (by simp)),λ _=>rfl⟩
 have I1:=I.laid (a:=s.heap.objs.size) (o:=.own (s.heap.objs.size+1)) (h':=s.heap.push PySem.W.emptyDict) (t':=s.toks) (λ b u q=>Heap.get?_push_of_some _ q) (Nat.le_refl _) ⟨_,e1⟩
 refine I1.laid (a:=s.heap.objs.size+1) (o:=.ins C s.heap.objs.size []) (t':=s.toks) (λ b u q=>Heap.get?_push_of_some _ q) (Nat.le_of_eq (Heap.size_push _ _)) ?_
 have ne:s.heap.objs.size≠s.heap.objs.size+1:=Nat.ne_of_lt (Nat.lt_succ_self _)
 refine⟨by rw[ah ne,av],Nat.zero_le _,ne,e2,λ _=>none,(Heap.Ns1.of_empty e3).at λ o q=>Heap.get?_push_of_some _ q,λ _=>True.intro,λ y hy=>absurd rfl hy⟩
theorem Fx {prog:Program}{w:World}{env:Env}{e:Expr}{f:Str}{pos:Pos}{s:Shared}{Q:Value->Shared->Prop}(hb:attributeBase e f env (eval e env)=eval e env)
  (h:wpAny (model prog w) A (eval e env) (λ o s₁=>wpAny (model prog w) A (getAttr o f true) Q E s₁) E s):wpAny (model prog w) A (eval (.Attribute e f pos) env) Q E s:=
 Attribute_any_ h (by rw[arm_eval_Attribute,hb])
end
def Of (K:PySem.W.Frag)(ta:TE)(f:Str):TE:=λ σ H Q=>ta σ H λ x H1=>∃ a C dx fs v,x=.ref a/\H1 a=some (.ins C dx fs)/\vh K C/\iP K C f/\fs.lookup f=some v/\Q v H1
def Ou (K:PySem.W.Frag)(ta tv:TE)(f:Str):TS:=λ D σ H=>tv σ H λ y H1=>ta σ H1 λ x H2=>∃ a C dx fs,x=.ref a/\H2 a=some (.ins C dx fs)/\vh K C/\iP K C f/\fs.length < 1000/\
 D.nx σ (upd H2 a (.ins C dx (jg f y fs)))
section
variable {X:Cx}{o e value:Expr}{f:Str}{pos pos' mV:Pos}{ta tv:TE}
theorem Hu (he:PE X e ta)(hb:attributeBase e f X.env (eval e X.env)=eval e X.env):PE X (.Attribute e f pos) (Of X.K ta f):=by
 intro pins s σ H Q I h
 refine Fx hb (bG (he pins s σ H _ I h) λ u s1 ⟨x,H1,I1,rx,a,C,dx,fs,v,ex,ea,c,n,l,q⟩=>?_)
 subst ex
 obtain rfl:u=Value.ref a:=rx
 exact v7 I1 ea c n l λ u' s2 I2 ru=>⟨v,H1,I2,ru,q⟩
theorem Hf (ha:PE X o ta)(hv:PE X value tv)(hs:swapsWith value (some (.Attribute o f pos')) pos.line X.env=pure false):PS X (.Assign [.Attribute o f pos'] value pos) (Ou X.K ta tv f):=by
 intro pins s σ H D I h
 refine plainObj_wpAny_Assign_Attribute (bG (hv pins s σ H _ I h) λ u s1 ⟨y,H1,I1,ry,q⟩=>bG (ha pins s1 σ H1 _ I1 q) λ ov s2 ⟨x,H2,I2,rx,a,C,dx,fs,ex,ea,c,n,l,q2⟩=>?_) hs
 subst ex
 obtain rfl:ov=Value.ref a:=rx
 exact vA I2 ea c n l ry λ s3 I3=>⟨σ,_,I3,q2⟩
theorem FU {pl:Sem Bool}{m:Str}{apos:Pos}{args:List Expr}{pins:List (Addr × Obj)}{s:Shared}{σ:St}{H:Hp}{Q:Value->Shared->Prop}{te:TE}(he:PE X e te)(I:Inv X pins σ H s)
  (h:te σ H λ x H1=>∃ a C dx fs g,x=.ref a/\H1 a=some (.ins C dx fs)/\vh X.K C/\Meth X.K C m g/\fs.lookup m=none/\
   ∀ s1,Inv X pins σ H1 s1->wpAny (model X.prog X.w) X.A (callWith pos (.ref g) [.ref a] (backTo pos (starEach args X.env)) (backToKw pos (keywordEach [] X.env))) Q X.xe s1)
  (ht:eval (.Call (.Attribute e m apos) args [] pos) X.env=(do
   let ov <-eval e X.env
   standAt apos.atName
   let (f,first) <-holding [ov] (getMethod ov m pl)
   callWith pos f first (backTo pos (starEach args X.env)) (backToKw pos (keywordEach [] X.env)))) :
  wpAny (model X.prog X.w) X.A (eval (.Call (.Attribute e m apos) args [] pos) X.env) Q X.xe s:=by
 refine PySem.W.methodCall_KW (pl:=pl) (bG (he pins s σ H _ I h) λ u s1 ⟨x,H1,I1,rx,a,C,dx,fs,g,ex,ea,c,k,l,q⟩=>?_) ht
 subst ex
 obtain rfl:u=Value.ref a:=rx
 exact lL I1 ea c k l (q s1 I1)
end
section
variable {X:Cx}{pins:List (Addr × Obj)}{σ:St}{H:Hp}{s:Shared}{A:Around}{E:Value->Shared->Prop}{Q:Value->Shared->Prop}{c:Value}{b:Bool}
inductive oI (K:PySem.W.Frag) (H:Hp):V->Value->Prop where
 | az:oI K H .az (.type "NoneType")
 | bl (x:Bool):oI K H (.bl x) (.type "bool")
 | int (i:Int):oI K H (.int i) (.type "int")
 | str (x:Str):oI K H (.str x) (.type "str")
 | Gh (x:UInt64):oI K H (.Gh x) (.type "float")
 | lst {a:Addr}{xs:List V}(e:H a=some (.lst xs)):oI K H (.ref a) (.type "list")
 | k9 {a:Addr}{o:Obj}{xs:List V}(e:H a=some (.k9 o (.lst xs))):oI K H (.ref a) (.type "list")
 | tup {a:Addr}{xs:List V}(e:H a=some (.tup xs)):oI K H (.ref a) (.type "tuple")
 | dK {a:Addr}{kvs:List (Key × V)}(e:H a=some (.dK kvs)):oI K H (.ref a) (.type "dict")
 | dT {a:Addr}{kvs:List (List Key × V)}(e:H a=some (.dT kvs)):oI K H (.ref a) (.type "dict")
 | ins {a C dx:Addr}{fs:List (Str × V)}(e:H a=some (.ins C dx fs)) (cl:vh K C) (ha:PySem.W.findIn K (.ref C) "__class__"=some (some (.builtin "object.__class__")))
   (hn:PySem.W.specialIn K (.builtin "object.__class__") "__get__"=some (some (.builtin "getset_descriptor.__get__"))) (QT:PySem.W.takesIn K (.builtin "object.__class__")=some true)
   (hm:PySem.W.mroIn K C (.type "object")=some true):oI K H (.ref a) (.ref C)
theorem kG {x:V}{u t:Value}(I:Inv X pins σ H s)(rx:RelV x u)(ty:oI X.K H x t)(e:PySem.W.kitOne X.K t c=some b)(h:∀ tk,Q (.bool b) { s with toks:=tk }) :
  wpAny (model X.prog X.w) A (call (.builtin "isinstance") [u,c]) Q E s:=by
 cases ty with
 | az=>cases (show u=Value.none from rx);exact PySem.W.kia_one PySem.W.kitx_none I.jl True.intro e (λ z=>nomatch z) h
 | bl y=>cases (show u=Value.bool y from rx);exact PySem.W.kia_one PySem.W.kitx_bool I.jl True.intro e (λ z=>nomatch z) h
 | int i=>obtain⟨t,q⟩:=(show ∃ t,u=Value.int i t from rx);cases q;exact PySem.W.kia_one PySem.W.kitx_int I.jl True.intro e (λ z=>nomatch z) h
 | str y=>obtain⟨t,q⟩:=(show ∃ t,u=Value.str y t from rx);cases q;exact PySem.W.kia_one PySem.W.kitx_str I.jl True.intro e (λ z=>nomatch z) h
 | Gh y=>obtain⟨t,q⟩:=(show ∃ t,u=Value.float y t from rx);cases q;exact PySem.W.kia_one PySem.W.kitx_float I.jl True.intro e (λ z=>nomatch z) h
 | @lst a xs ea=>
  cases (show u=Value.ref a from rx)
  obtain⟨_,_,n,_,h1⟩:=(show bQ X.prog X.w H s.heap a (.lst xs) from I.aQ a _ ea)
  exact PySem.W.kia_one PySem.W.kitx_list I.jl ⟨_,h1,rfl⟩ e (λ z=>nomatch z) h
 | @k9 a ob xs ea=>
  cases (show u=Value.ref a from rx)
  obtain⟨_,_,_,n,_,h1⟩:=(show bQ X.prog X.w H s.heap a (.k9 ob (.lst xs)) from I.aQ a _ ea)
  exact PySem.W.kia_one PySem.W.kitx_list I.jl ⟨_,h1,rfl⟩ e (λ z=>nomatch z) h
 | @tup a xs ea=>
  cases (show u=Value.ref a from rx)
  obtain⟨_,_,_,p⟩:=(show bQ X.prog X.w H s.heap a (.tup xs) from I.aQ a _ ea)
  obtain⟨o,h1,h2,_⟩:=p
  exact PySem.W.kia_one PySem.W.kitx_tuple I.jl ⟨o,h1,h2⟩ e (λ z=>nomatch z) h
 | @dK a kvs ea=>
  cases (show u=Value.ref a from rx)
  obtain⟨_,_,vs,_,p⟩:=(show bQ X.prog X.w H s.heap a (.dK kvs) from I.aQ a _ ea)
  obtain⟨o,es,ep,h1,h2,_⟩:=p
  exact PySem.W.kia_one PySem.W.kitx_dict I.jl ⟨o,h1,h2.1⟩ e (λ z=>nomatch z) h
 | @dT a kvs ea=>
  cases (show u=Value.ref a from rx)
  obtain⟨_,_,xs,_,o,es,ep,h1,h2,_⟩:=(show bQ X.prog X.w H s.heap a (.dT kvs) from I.aQ a _ ea)
  exact PySem.W.kia_one PySem.W.kitx_dict I.jl ⟨o,h1,h2.1⟩ e (λ z=>nomatch z) h
 | @ins a C dx fs ea cl ha hn QT hm=>
  cases (show u=Value.ref a from rx)
  obtain⟨mA,O,_⟩:=oU I.aQ ea
  obtain⟨od,J,_⟩:=O.look
  exact PySem.W.kia_one (PySem.W.kitx_own (cl.get _) cl.hd ha hn QT hm) I.jl J e (λ z=>nomatch z) h
end
end L2
namespace L2
open PySem PySem.Spec PyProof.Rows
structure cX (k:Nat)(A:Around):Prop where
 hd:A.handled=none
 dp:A.depth+3 * k+5 < recursionLimit
 un:A.units+16 * k+200 < cLine
theorem cX.mono {j k:Nat}{A:Around}(r:cX k A)(h:j<=k):cX j A:=⟨r.hd,by have:=r.dp;omega,by have:=r.un;omega⟩
theorem cX.deeper {k:Nat}{A:Around}(r:cX (k+1) A) (env:Env):cX k (A.deeper env):=
 ⟨r.hd,by have:=r.dp;show A.depth+1+3 * k+5 < _;omega,by have:=r.un;show A.units+3+16 * k+200 < _;omega⟩
theorem vT {A:Around}{C:Addr}{us:List Value}{kw:List (Str × Value)}:(A.under (.builtin "type.__call__" ⟨.ref C :: us,kw⟩)).depth=A.depth+1:=by
 first|rfl|simp[Around.under,Code.weight,Code.isCreation,Code.isGuard,Code.isCaller,Code.frames,Code.isFrame,guardIds]
theorem vS {A:Around}{C:Addr}{us:List Value}{kw:List (Str × Value)}:(A.under (.builtin "type.__call__" ⟨.ref C :: us,kw⟩)).units=A.units+1:=by
 first|rfl|simp[Around.under,Code.cUnits,Code.frames,Code.isFrame]
theorem cX.make {k:Nat}{A:Around}(r:cX (k+1) A) (C:Addr)(us:List Value)(kw:List (Str × Value)):cX k (A.under (.builtin "type.__call__" ⟨.ref C :: us,kw⟩)):=
 ⟨r.hd,by have:=r.dp;rw[vT];omega,by have:=r.un;rw[vS];omega⟩
theorem cX.depth {k:Nat}{A:Around}(r:cX k A):A.depth < recursionLimit:=by have:=r.dp;omega
theorem cX.units {k:Nat}{A:Around}(r:cX k A):A.units+64 < cLine:=by have:=r.un;omega
def um:TA:=λ _ H Q=>Q [] H
def qQ (ta:TE)(tr:TA):TA:=λ σ H Q=>ta σ H λ x H1=>tr σ H1 λ xs H2=>Q (x :: xs) H2
section
variable {X:Cx}{e:Expr}{es:List Expr}{te:TE}{t:TA}{pos:Pos}
theorem fC:PA X [] um:=λ _ _ _ _ H Q I h=>Calls.spliced_nil ⟨[],H,I,.nil,h⟩
theorem cf (ha:PE X e te)(hr:PA X es t)(hs:starEach (e :: es) X.env=(false,eval e X.env) :: starEach es X.env:=by rfl):PA X (e :: es) (qQ te t):=by
 intro pos pins s σ H Q I h
 rw[hs]
 show wpAny _ _ (spliced ((false,eval e X.env) :: backTo pos (starEach es X.env))) _ _ s
 refine Calls.spliced_cons (bG (ha pins s σ H _ I h) λ u s1 ⟨x,H1,I1,r1,q1⟩=>?_)
 exact bG (hr pos pins s1 σ H1 _ I1 q1) λ us s2 ⟨xs,H2,I2,r2,q2⟩=>⟨x :: xs,H2,I2,.cons r1 r2,q2⟩
def N6 (t:TA):TE:=λ σ H Q=>t σ H λ xs H1=>xs.length<=sizeLine/\∀ p,H1 p=none->Q (.ref p) (upd H1 p (.tup xs))
def Ob (t:TA):TE:=λ σ H Q=>t σ H λ xs H1=>xs.length<=sizeLine/\∀ p,H1 p=none->Q (.ref p) (upd H1 p (.lst xs))
theorem Ae {x1} (h:PA X es t):PE X (.Tuple es x1 pos) (N6 t):=by
 intro pins s σ H Q I hq
 refine wpAny_Tuple_spliced (bG (h pos pins s σ H _ I hq) λ us s1 ⟨xs,H1,I1,r,z,q⟩=>⟨by rw[<-r.length];exact z,?_⟩)
 have hf:H1 s1.heap.objs.size=none:=I1.aQ.fresh (Nat.le_refl _)
 refine⟨.ref s1.heap.objs.size,upd H1 s1.heap.objs.size (.tup xs),I1.laid (t':=s1.toks) (λ b u e=>Heap.get?_push_of_some _ e) (Nat.le_refl _) ?_,rfl,q _ hf⟩
 exact⟨z,us,r,⟨_,Heap.get?_push_size _ rfl,rfl,_,rfl⟩⟩
theorem Hr (h:PA X es t):PE X (.List es pos) (Ob t):=by
 intro pins s σ H Q I hq
 refine wpAny_List_spliced (bG (h pos pins s σ H _ I hq) λ us s1 ⟨xs,H1,I1,r,z,q⟩=>⟨by rw[<-r.length];exact z,?_⟩)
 have hf:H1 s1.heap.objs.size=none:=I1.aQ.fresh (Nat.le_refl _)
 refine⟨.ref s1.heap.objs.size,upd H1 s1.heap.objs.size (.lst xs),I1.laid (t':=s1.toks) (λ b u e=>Heap.get?_push_of_some _ e) (Nat.le_refl _) ?_,rfl,q _ hf⟩
 exact⟨z,us,0,r,Heap.get?_push_size _ rfl⟩
end
abbrev Sp:=List V->Hp->VK->XK->Prop
abbrev yU:=List Env->Hp->Shared->XK->Value->Shared->Prop
structure wu (P:Program)(w:World)(K:PySem.W.Frag)(mg:Str->Option Value)(base:Heap)(A:Around)(outer:List Env)(s:Shared)(H:Hp):Prop where
 frames:A.frames=some outer
 mod:Mod K mg base
 bs:∀ b o,base.get? b=some o->s.heap.get? b=some o/\H b=none
 xA:base.objs.size<=s.heap.objs.size
 lP:s.heap.FunFrames base outer
 CK:∀ b∈ub outer,H b=none
 aQ:jG P w H s.heap
 bare:AllBare s.gens
def CE (outer:List Env)(P:Program)(w:World)(H:Hp)(s:Shared)(Q:VK)(u:Value)(s':Shared):Prop:=
 ∃ v H',s'.os=s.os/\AllBare s'.gens/\Un (ub outer) [] H H' s.heap s'.heap/\jG P w H' s'.heap/\RelV v u/\Q v H'
def CR (CX:yU)(outer:List Env)(P:Program)(w:World)(H:Hp)(s:Shared)(Q:VK)(E:XK)(r:Result)(s':Shared):Prop:=
 match r with
 | .ok (.ret u)=>CE outer P w H s Q u s'
 | .ok _=>False
 | .error e=>CX outer H s E e s'
structure gA (P:Program)(w:World)(K:PySem.W.Frag)(mg:Str->Option Value)(base:Heap)(CX:yU)(k:Nat)(f:Addr)(fd:FuncData)(ps:List Str)(sp:Sp):Prop where
 len:∀ vs H Q E,sp vs H Q E->vs.length=ps.length
 run:∀ (A:Around) (outer:List Env) (s:Shared) (H:Hp) (args:Args) (us:List Value) (vs:List V) (Q:VK) (E:XK),cX k A->wu P w K mg base A outer s H->BindsTo s fd args (ps.zip us)->Vals vs us->sp vs H Q E->
  codeAny (model P w) A (.call (.ref f) args) (CR CX outer P w H s Q E) s
theorem gA.imp {P:Program}{w:World}{K:PySem.W.Frag}{mg:Str->Option Value}{base:Heap}{CX:yU}{k:Nat}{f:Addr}{fd:FuncData}{ps:List Str}{sp Qw:Sp}(F:gA P w K mg base CX k f fd ps sp)
  (h:∀ vs H Q E,Qw vs H Q E->sp vs H Q E):gA P w K mg base CX k f fd ps Qw:=
 ⟨λ vs H Q E q=>F.len vs H Q E (h _ _ _ _ q),λ A outer s H args us vs Q E hr he hb hv hs=>F.run A outer s H args us vs Q E hr he hb hv (h _ _ _ _ hs)⟩
theorem wu.make {P:Program}{w:World}{K:PySem.W.Frag}{mg:Str->Option Value}{base:Heap}{A:Around}{outer:List Env}{s:Shared}{H:Hp}(e:wu P w K mg base A outer s H)(C:Addr)(us:List Value)(kw:List (Str × Value)) :
  wu P w K mg base (A.under (.builtin "type.__call__" ⟨.ref C :: us,kw⟩)) outer s H:=⟨by first|exact e.frames|(simpa[Around.under,Code.envs,Code.isFrame,pushEnvs]using e.frames),e.mod,e.bs,e.xA,e.lP,e.CK,e.aQ,e.bare⟩
section
variable {X:Cx}{pins:List (Addr × Obj)}{σ:St}{H:Hp}{s s':Shared}
theorem Inv.Mp (I:Inv X pins σ H s):wu X.prog X.w X.K X.mg X.base X.A X.stack s H:=
 ⟨I.ok.frames,I.ok.mod,I.bs,Nat.le_trans I.ok.xA I.sz,I.stack,I.oO,I.aQ,I.bare⟩
theorem Inv.after {Q:VK}{u:Value}(I:Inv X pins σ H s)(h:CE X.stack X.prog X.w H s Q u s'):EP X pins σ Q u s':=by
 obtain⟨v,H',os,bare,un,aQ,r,q⟩:=h
 obtain⟨hh,g,d,t,RM⟩:=s'
 obtain rfl:RM=s.os:=os
 exact⟨v,H',I.call (h':=hh) (g':=g) (d':=d) (t':=t) (ch:=[]) un aQ bare (λ b z=>absurd z (by simp)),r,q⟩
end
def zx (sp:Sp)(qe:List V)(E:XK)(t:TA):TE:=λ σ H Q=>t σ H λ vs H1=>sp (vs++qe) H1 Q E
def zv (C:Addr)(m:Str)(sp:Sp)(qe:List V)(E:XK)(ta:TE)(t:TA):TE:=λ σ H Q=>ta σ H λ x H1=>∃ a dx fs,x=.ref a/\H1 a=some (.ins C dx fs)/\fs.lookup m=none/\
 t σ H1 λ vs H2=>sp (x :: (vs++qe)) H2 Q E
def Kc (C:Addr)(sp:Sp)(qe:List V)(E:XK)(t:TA):TE:=λ σ H Q=>t σ H λ vs H1=>∀ x dx,H1 x=none->H1 dx=none->dx≠x->
 sp (.ref x :: (vs++qe)) (upd (upd H1 dx (.own x)) x (.ins C dx [])) (λ v H2=>v=.az/\Q (.ref x) H2) E
def Binds (K:PySem.W.Frag)(fd:FuncData)(ps:List Str)(ds:List Value):Prop:=
 ∀ (s:Shared) (us:List Value),K.In s.heap->(us++ds).length=ps.length->BindsTo s fd ⟨us,[]⟩ (ps.zip (us++ds))
theorem Binds.all {K:PySem.W.Frag}{fd:FuncData}{ps:List Str}(h:∀ us:List Value,us.length=ps.length->bindArgs fd ⟨us,[]⟩=pure (ps.zip us)):Binds K fd ps []:=λ s us _ hl=>by
 rw[List.append_nil]at hl ⊢
 exact .of_eq (h us hl)
def Passes (CX:yU)(X:Cx)(E:XK):Prop:=∀ (pins:List (Addr × Obj)) (σ:St) (H:Hp) (s:Shared) (e:Value) (s':Shared),Inv X pins σ H s->CX X.stack H s E e s'->X.xe e s'
section
variable {X:Cx}{CX:yU}{k:Nat}{f C:Addr}{fd:FuncData}{ps:List Str}{sp:Sp}{qe:List V}{ds:List Value}{E:XK}{x m:Str}{p pos apos:Pos}{e o:Expr}{es:List Expr}{ta:TE}{t:TA}
theorem sC {pins:List (Addr × Obj)}{σ:St}{H:Hp}{s:Shared}{Q:VK}{us:List Value}{vs:List V}(F:gA X.prog X.w X.K X.mg X.base CX k f fd ps sp)(hr:cX k X.A)(hb:Binds X.K fd ps ds)(hd:Vals qe ds)(hx:Passes CX X E)
  (I:Inv X pins σ H s) (r:Vals vs us) (h:sp (vs++qe) H Q E):wpAny (model X.prog X.w) X.A (call (.ref f) us) (EP X pins σ Q) X.xe s:=by
 have r2:Vals (vs++qe) (us++ds):=r.append hd
 have hl:(us++ds).length=ps.length:=by rw[<-r2.length];exact F.len _ _ _ _ h
 refine wpAny_call (codeAny_mono (F.run X.A X.stack s H ⟨us,[]⟩ (us++ds) (vs++qe) Q E hr I.Mp (hb s us I.jl hl) r2 h) λ r s' hq=>?_)
 cases r with
 | error e=>exact hx pins σ H s e s' I hq
 | ok fl=>
  cases fl with
  | ret u=>exact I.after hq
  | next=>exact False.elim hq
  | brk=>exact False.elim hq
  | cont=>exact False.elim hq
theorem DS (F:gA X.prog X.w X.K X.mg X.base CX k f fd ps sp)(hr:cX k X.A)(hg:Gl X x)(hm:X.mg x=some (.ref f)) (hk:PySem.W.keepIn X.K (.ref f)=true) (hb:Binds X.K fd ps ds)(hd:Vals qe ds)(hx:Passes CX X E)
  (ha:PA X (e :: es) t) (jm:(x == ("__debug__":Str))=false:=by decide) (he:starEach (e :: es) X.env=(false,eval e X.env) :: starEach es X.env:=by rfl) (fe:(backTo pos (starEach es X.env)).any (·.1)=false:=by rfl) :
  PE X (.Call (.Name x p) (e :: es) [] pos) (zx sp qe E t):=by
 intro pins s σ H Q I h
 refine wpAny_Call_Name_kw (kD I hg hm ?_ jm)
 refine PySem.W.callWith_K (h₀:=X.base) I.ok.mod.LB hk (bG (ha pos pins s σ H _ I h) λ us s1 ⟨vs,H1,I1,r,q⟩=>⟨I1.jl,?_⟩) he fe
 exact sC F hr hb hd hx I1 r q
theorem An (F:gA X.prog X.w X.K X.mg X.base CX k f fd ps sp)(hr:cX k X.A)(hg:Gl X x)(hm:X.mg x=some (.ref f)) (hk:PySem.W.keepIn X.K (.ref f)=true) (hb:Binds X.K fd ps ds)(hd:Vals qe ds)(hx:Passes CX X E)
  (jm:(x == ("__debug__":Str))=false:=by decide):PE X (.Call (.Name x p) [] [] pos) (zx sp qe E um):=by
 intro pins s σ H Q I h
 refine wpAny_Call_Name_kw (kD I hg hm ?_ jm)
 exact PySem.W.callWith_K0 I.jl hk (sC (us:=[]) F hr hb hd hx I .nil h)
theorem DM {pl:Sem Bool}(he:PE X o ta)(c:vh X.K C)(hm:Meth X.K C m f)(F:gA X.prog X.w X.K X.mg X.base CX k f fd ps sp)(hr:cX k X.A)(hb:Binds X.K fd ps ds)(hd:Vals qe ds)(hx:Passes CX X E)(ha:PA X (e :: es) t)
  (vX:starEach (e :: es) X.env=(false,eval e X.env) :: starEach es X.env:=by rfl) (fe:(backTo pos (starEach es X.env)).any (·.1)=false:=by rfl)
  (ht:eval (.Call (.Attribute o m apos) (e :: es) [] pos) X.env=(do
   let ov <-eval o X.env
   standAt apos.atName
   let (f,first) <-holding [ov] (getMethod ov m pl)
   callWith pos f first (backTo pos (starEach (e :: es) X.env)) (backToKw pos (keywordEach [] X.env))):=by rfl) :
  PE X (.Call (.Attribute o m apos) (e :: es) [] pos) (zv C m sp qe E ta t):=by
 intro pins s σ H Q I h
 refine PySem.W.methodCall_KW (pl:=pl) (bG (he pins s σ H _ I h) λ u s1 ⟨x,H1,I1,rx,a,dx,fs,ex,ea,l,q⟩=>?_) ht
 subst ex
 obtain rfl:u=Value.ref a:=rx
 refine lL I1 ea c hm l ?_
 refine PySem.W.callWith_K (first:=[.ref a]) (h₀:=X.base) I.ok.mod.LB hm.kp (bG (ha pos pins s1 σ H1 _ I1 q) λ us s2 ⟨vs,H2,I2,r,q2⟩=>⟨I2.jl,?_⟩) vX fe
 exact sC (us:=.ref a :: us) (vs:=.ref a :: vs) F hr hb hd hx I2 (.cons rfl r) q2
theorem Ah {pl:Sem Bool}(he:PE X o ta)(c:vh X.K C)(hm:Meth X.K C m f)(F:gA X.prog X.w X.K X.mg X.base CX k f fd ps sp)(hr:cX k X.A)(hb:Binds X.K fd ps ds)(hd:Vals qe ds)(hx:Passes CX X E)
  (ht:eval (.Call (.Attribute o m apos) [] [] pos) X.env=(do
   let ov <-eval o X.env
   standAt apos.atName
   let (f,first) <-holding [ov] (getMethod ov m pl)
   callWith pos f first (backTo pos (starEach [] X.env)) (backToKw pos (keywordEach [] X.env))):=by rfl) :
  PE X (.Call (.Attribute o m apos) [] [] pos) (zv C m sp qe E ta um):=by
 intro pins s σ H Q I h
 refine PySem.W.methodCall_KW (pl:=pl) (bG (he pins s σ H _ I h) λ u s1 ⟨x,H1,I1,rx,a,dx,fs,ex,ea,l,q⟩=>?_) ht
 subst ex
 obtain rfl:u=Value.ref a:=rx
 refine lL I1 ea c hm l ?_
 exact PySem.W.callWith_K0 (first:=[.ref a]) I1.jl hm.kp (sC (us:=[.ref a]) (vs:=[.ref a]) F hr hb hd hx I1 (.cons rfl .nil) q)
structure Mk (K:PySem.W.Frag)(C f:Addr):Prop where
 makes:PySem.W.makesIn K C=true
 init:PySem.W.findIn K (.ref C) "__init__"=some (some (.ref f))
 fn:PySem.W.isFn K (.ref f)=true
 kp:PySem.W.keepIn K (.ref C)=true
theorem zI {pins:List (Addr × Obj)}{σ:St}{H:Hp}{s:Shared}{Q:VK}{us:List Value}{vs:List V}(M:Mk X.K C f)(F:gA X.prog X.w X.K X.mg X.base CX k f fd ps sp)(hr:cX (k+1) X.A) (hb:Binds X.K fd ps ds)(hd:Vals qe ds)
  (hx:Passes CX X E) (I:Inv X pins σ H s) (r:Vals vs us)
  (h:∀ x dx,H x=none->H dx=none->dx≠x->sp (.ref x :: (vs++qe)) (upd (upd H dx (.own x)) x (.ins C dx [])) (λ v H2=>v=.az/\Q (.ref x) H2) E) :
  wpAny (model X.prog X.w) X.A (call (.ref C) us) (EP X pins σ Q) X.xe s:=by
 have hq:=h (s.heap.objs.size+1) s.heap.objs.size (I.aQ.fresh (Nat.le_succ _)) (I.aQ.fresh (Nat.le_refl _)) (Nat.ne_of_lt (Nat.lt_succ_self _))
 have I2:=Inv.made (C:=C) I
 have r2:Vals (V.ref (s.heap.objs.size+1) :: (vs++qe)) (Value.ref (s.heap.objs.size+1) :: (us++ds)):=.cons rfl (r.append hd)
 have hl:(Value.ref (s.heap.objs.size+1) :: us++ds).length=ps.length:=by
  have e:=r2.length
  rw[F.len _ _ _ _ hq]at e
  exact e.symm
 refine wpAny_call (A_ (f:=f) I.jl M.makes M.init (beq_iff_eq.mp M.fn) (codeAny_mono (F.run _ X.stack _ _ ⟨Value.ref (s.heap.objs.size+1) :: us,[]⟩ (Value.ref (s.heap.objs.size+1) :: (us++ds)) _ _ E (hr.make C us [])
  (I2.Mp.make C us []) (hb _ (Value.ref (s.heap.objs.size+1) :: us) I2.jl hl) r2 hq) λ r s' LM=>?_))
 cases r with
 | error e=>exact hx pins σ _ _ e s' I2 LM
 | ok fl=>
  cases fl with
  | ret u=>
   obtain⟨v,H',I3,rv,ev,q3⟩:=I2.after LM
   subst ev
   exact⟨rv,⟨V.ref (s.heap.objs.size+1),H',I3,rfl,q3⟩⟩
  | next=>exact False.elim LM
  | brk=>exact False.elim LM
  | cont=>exact False.elim LM
theorem Ai (M:Mk X.K C f)(F:gA X.prog X.w X.K X.mg X.base CX k f fd ps sp)(hr:cX (k+1) X.A) (hg:Gl X x)(hm:X.mg x=some (.ref C)) (hb:Binds X.K fd ps ds)(hd:Vals qe ds)(hx:Passes CX X E)
  (jm:(x == ("__debug__":Str))=false:=by decide):PE X (.Call (.Name x p) [] [] pos) (Kc C sp qe E um):=by
 intro pins s σ H Q I h
 refine wpAny_Call_Name_kw (kD I hg hm ?_ jm)
 exact PySem.W.callWith_K0 I.jl M.kp (zI (us:=[]) M F hr hb hd hx I .nil h)
end
section
variable {X:Cx}{CX:yU}{k:Nat}{f C:Addr}{fd:FuncData}{ps ks:List Str}{sp:Sp}{E:XK}{x m:Str}{p pos apos RX:Pos}{e o:Expr}{es:List Expr}{Ts:List Keyword}{te ta:TE}{t tk:TA}{nm:Option Str}
variable {g:List Value->List Value->List Value}{gV:List V->List V->List V}
end
structure iy (N P:List Str)(sc:Scope):Prop where
 kind:sc.kind=.function
 co:sc.isCoroutine=false
 gen:sc.isGenerator=false
 nd:N.Nodup
 pre:N.take P.length=P
 par:∀ x∈P,sc.names.lookup x=some .local∨sc.names.lookup x=some .cell
 HJ:∀ y∈sc.names,y.2≠.free
theorem rY {kindOf:Str->Option NameKind}{x:Str}:∀ {binds:List (Str × Value)}{m:Str->Option Value},(∀ v,(x,v)∉binds)->bindL kindOf binds m x=m x
 | [],_,_=>rfl
 | (n,v) :: r,m,h=>by
  unfold bindL
  rw[rY λ w hw=>h w (List.mem_cons_of_mem _ hw)]
  split
  ·have:x≠n:=by rintro rfl;exact h v List.mem_cons_self
   simp[this]
  ·rfl
theorem r_ {kindOf:Str->Option NameKind}{x:Str}:∀ {binds:List (Str × Value)}{m:Str->Option Value},(∀ v,(x,v)∉binds)->bindC kindOf binds m x=m x
 | [],_,_=>rfl
 | (n,v) :: r,m,h=>by
  unfold bindC
  rw[r_ λ w hw=>h w (List.mem_cons_of_mem _ hw)]
  split
  ·rfl
  ·have:x≠n:=by rintro rfl;exact h v List.mem_cons_self
   simp[this]
theorem rZ {kindOf:Str->Option NameKind}{x:Str}{v:Value}:∀ {P:List Str}{vs:List Value}{i:Nat}{m:Str->Option Value},P.Nodup->P[i]? = some x->vs[i]? = some v->kindOf x=some .local->
  bindL kindOf (P.zip vs) m x=some v
 | [],_,_,_,_,h,_,_=>by simp at h
 | _ :: _,[],_,_,_,_,h,_=>by simp at h
 | p :: P,w :: vs,0,m,nd,h1,h2,hk=>by
  simp at h1 h2;subst h1;subst h2
  show bindL kindOf ((p,w) :: P.zip vs) m p=_
  unfold bindL
  rw[rY λ v hv=>(List.nodup_cons.mp nd).1 (List.of_mem_zip hv).1,if_pos hk]
  simp
 | p :: P,w :: vs,i+1,m,nd,h1,h2,hk=>by
  show bindL kindOf ((p,w) :: P.zip vs) m x=_
  unfold bindL
  exact rZ (i:=i) (List.nodup_cons.mp nd).2 (by simpa using h1) (by simpa using h2) hk
theorem sd {kindOf:Str->Option NameKind}{x:Str}{v:Value}:∀ {P:List Str}{vs:List Value}{i:Nat}{m:Str->Option Value},P.Nodup->P[i]? = some x->vs[i]? = some v->kindOf x≠some .local->
  bindC kindOf (P.zip vs) m x=some v
 | [],_,_,_,_,h,_,_=>by simp at h
 | _ :: _,[],_,_,_,_,h,_=>by simp at h
 | p :: P,w :: vs,0,m,nd,h1,h2,hk=>by
  simp at h1 h2;subst h1;subst h2
  show bindC kindOf ((p,w) :: P.zip vs) m p=_
  unfold bindC
  rw[r_ λ v hv=>(List.nodup_cons.mp nd).1 (List.of_mem_zip hv).1,if_neg hk]
  simp
 | p :: P,w :: vs,i+1,m,nd,h1,h2,hk=>by
  show bindC kindOf ((p,w) :: P.zip vs) m x=_
  unfold bindC
  exact sd (i:=i) (List.nodup_cons.mp nd).2 (by simpa using h1) (by simpa using h2) hk
def start (N:List Str)(vs:List V):St:=vs.map some++List.replicate (N.length - vs.length) none
def jE (CX:yU)(P:Program)(w:World)(K:PySem.W.Frag)(mg:Str->Option Value)(base:Heap)(N:List Str)(qual:Str)(scope:Scope)(f:Addr)(cd:Value)(A:Around)(outer:List Env)(s:Shared)(H:Hp)(E:XK):Cx where
 prog:=P
 w:=w
 K:=K
 mg:=mg
 base:=base
 A:=A.deeper (envOfC qual scope s.heap.objs.size f cd)
 N:=N
 gS:=s
 wt:=H
 env:=envOfC qual scope s.heap.objs.size f cd
 outer:=outer
 stack:=envOfC qual scope s.heap.objs.size f cd :: outer
 ex:=[]
 calm:=true
 fn:=λ _=>true
 pn:=[]
 xe:=λ e s'=>wpAny (model P w) (A.deeper (envOfC qual scope s.heap.objs.size f cd)) (leaving (envOfC qual scope s.heap.objs.size f cd) e) (λ _ vi=>CX outer H s E e vi) (λ e' vi=>CX outer H s E e' vi) s'
theorem u7 {sc:Scope}{n:Nat}{x:Str}(h:sc.names.lookup x=some .cell):∃ c,(cellsFrom n sc.names []).lookup x=some c:=by
 have q:=PySem.W.cellsFrom_some sc.names n [] (.inl h)
 exact Option.isSome_iff_exists.mp q
theorem yr {CX:yU}{P:Program}{w:World}{K:PySem.W.Frag}{mg:Str->Option Value}{base:Heap}{N ps:List Str}{qual:Str}{scope:Scope}{f:Addr}{cd:Value}{A:Around}{outer:List Env}{s s1:Shared}{H:Hp}{E:XK}{us:List Value}{vs:List V}
  (S:iy N ps scope) (hd:A.handled=none) (e0:wu P w K mg base A outer s H) (hl:vs.length=ps.length) (r:Vals vs us)
  (x:InCallC s s.heap.objs.size (bindL (envOfC qual scope s.heap.objs.size f cd).kindOf (ps.zip us) λ _=>none) (cellsFrom (s.heap.objs.size+1) scope.names []) (bindC (envOfC qual scope s.heap.objs.size f cd).kindOf (ps.zip us) λ _=>none) s1) :
  Inv (jE CX P w K mg base N qual scope f cd A outer s H E) [] (start N vs) H s1:=by
 have fe:ps.length<=N.length:=by have:=congrArg List.length S.pre;rw[List.length_take]at this;omega
 obtain⟨h1,tk,rfl,hk⟩:=x.done
 have noA:∀ b:Addr,b∉(jE CX P w K mg base N qual scope f cd A outer s H E).ex:=λ b z=>absurd (show b∈([]:List Addr) from z) (by simp)
 refine⟨⟨e0.mod,S.kind,rfl,rfl,Nat.le_refl _,λ y z c h1 h2=>?_,λ y hy=>?_,λ y c _ h=>?_,λ _=>hd,Around.frames_deeper e0.frames,.inr ⟨rfl,rfl⟩,λ b z=>absurd z (noA b),e0.bs,e0.xA,λ b _ _=>noA b,λ b z=>absurd z (noA b),e0.lP,e0.CK⟩,
  rfl,e0.bare,Un.kept hk,⟨_,x.toInCall.ns,λ i y v h1 h2 h3=>?_⟩,λ y c h=>⟨_,x.cell y c h⟩,e0.aQ.fresh (Nat.le_refl _),λ y c h=>?_,λ p hp=>absurd (show p∈([]:List (Addr × Obj)) from hp) (by simp),e0.aQ.kept hk,?_⟩
 ·exact name_of_addr x.apart (PySem.mem_of_lookup h1) (PySem.mem_of_lookup h2)
 ·have hy:scope.names.lookup y=some .cell∨scope.names.lookup y=some .free:=hy
  rcases hy with hy|hy
  ·exact u7 hy
  ·exact absurd rfl (S.HJ _ (PySem.mem_of_lookup hy))
 ·exact Nat.le_of_lt (x.above y c (PySem.mem_of_lookup h))
 ·have hi:i < vs.length:=by
   unfold start at h2
   by_cases hi:i < vs.length
   ·exact hi
   ·rw[List.getElem?_append_right (by simpa using hi)]at h2
    rw[List.getElem?_replicate]at h2
    split at h2<;>cases h2
  have ha:vs[i]? = some v:=by
   unfold start at h2
   rw[List.getElem?_append_left (by simpa using hi),List.getElem?_map]at h2
   cases e:vs[i]? with
   | none=>rw[e]at h2;cases h2
   | some a=>rw[e]at h2;cases h2;rfl
  obtain⟨u,hu,rv⟩:=r.get ha
  have hp:ps[i]? = some y:=by
   rw[<-S.pre,List.getElem?_take_of_lt (by omega)];exact h1
  have ndP:ps.Nodup:=by rw[<-S.pre];exact S.nd.sublist (List.take_sublist _ _)
  refine⟨u,rv,?_⟩
  rcases S.par y (List.mem_of_getElem? hp) with k|k
  ·exact .inl ⟨k,rZ ndP hp hu k⟩
  ·obtain⟨c,e⟩:=u7 (n:=s.heap.objs.size+1) k
   refine .inr ⟨.inl k,c,e,?_⟩
   have q:=x.cell y c e
   rw[sd ndP hp hu (by show scope.names.lookup y≠_;rw[k];decide)]at q
   exact q
 ·exact e0.aQ.fresh (Nat.le_of_lt (x.above y c (PySem.mem_of_lookup h)))
 ·unfold start
  show _=N.length
  rw[List.length_append,List.length_map,List.length_replicate]
  omega
theorem Gg {CX:yU}{P:Program}{w:World}{K:PySem.W.Frag}{mg:Str->Option Value}{base:Heap}{k:Nat}{f:Addr}{name qual:Str}{params:Arguments}{body:List Stmt}{scope:Scope}{dV kV doc pm dD ct oc:Value}{an od:Option Addr}
  {qv:Array (Option Value)}{N ps:List Str}{sp:Sp}(lk:K.lookup f=some ⟨oc,od,.func (PySem.W.fnOf name qual params body scope dV kV doc pm an dD ct),qv⟩) (xj:PySem.W.codeIn K dD qual=true) (S:iy N ps scope)
  (len:∀ vs H Q E,sp vs H Q E->vs.length=ps.length)
  (L5:∀ (A:Around) (outer:List Env) (s:Shared) (H:Hp) (vs:List V) (Q:VK) (E:XK),cX k (A.deeper (envOfC qual scope s.heap.objs.size f dD))->sp vs H Q E->
   ∃ t,kA (jE CX P w K mg base N qual scope f dD A outer s H E) body t/\t { nx:=λ _ H'=>Q .az H',rt:=Q } (start N vs) H) :
  gA P w K mg base CX (k+1) f (PySem.W.fnOf name qual params body scope dV kV doc pm an dD ct) ps sp:=by
 refine⟨len,λ A outer s H args us vs Q E hr e0 hb r JH=>?_⟩
 have hl:=len _ _ _ _ JH
 have KX:K.In s.heap:=e0.mod.LB.keeps λ b o e=>(e0.bs b o e).1
 have lim:s.heap.NoLimit:=e0.mod.nolimit.keeps λ b o e=>(e0.bs b o e).1
 have Bv:∀ y∈ps.zip us,scope.names.lookup y.1=some .local∨(scope.names.lookup y.1=some .cell/\((cellsFrom (s.heap.objs.size+1) scope.names []).lookup y.1).isSome=true):=λ⟨n,v⟩ hy=>by
  rcases S.par n (List.of_mem_zip hy).1 with q|q
  ·exact .inl q
  ·exact .inr ⟨q,PySem.W.cellsFrom_some _ _ _ (.inl q)⟩
 refine codeAny_call_function hr.depth (KX _ _ lk) rfl S.co S.gen rfl (PySem.W.codeRec_of KX xj) (hb _ _ _ _ ?_)
 refine wpAny_newFunctionEnv_cells S.kind Bv λ env he s1 x=>?_
 subst he
 refine⟨lim.keeps x.toInCall.keep,codeAny_func ?_⟩
 obtain⟨t,ht,hq⟩:=L5 A outer s H vs Q E (hr.deeper _) JH
 have I:Inv (jE CX P w K mg base N qual scope f dD A outer s H E) [] (start N vs) H s1:=yr S hr.hd e0 hl r x
 refine wpAny_mono (ht [] s1 (start N vs) H _ I hq) (λ fl s' hs=>?_) λ e s' hs=>hs
 have fin:∀ {σ':St}{H':Hp}{v:V}{u:Value},Inv (jE CX P w K mg base N qual scope f dD A outer s H E) [] σ' H' s'->RelV v u->Q v H'->CE outer P w H s Q u s':=
  λ {σ' H' v u} J rv q=>⟨v,H',J.os,J.bare,J.base,J.aQ,rv,q⟩
 cases fl with
 | ret u=>
  obtain⟨v,σ',H',J,rv,q⟩:=hs
  exact fin J rv q
 | next=>
  obtain⟨σ',H',J,q⟩:=hs
  exact fin (v:=V.az) (u:=Value.none) J rfl q
 | brk=>
  obtain⟨_,_,_,q⟩:=hs
  exact False.elim q
 | cont=>
  obtain⟨_,_,_,q⟩:=hs
  exact False.elim q
end L2
namespace L2
open PySem PySem.Spec PyProof.Rows
section
variable {X:Cx}{x:Str}{p pos:Pos}{e:Expr}{es:List Expr}{t:TA}{id T:String}{r:List V->Hp->VK->Prop}
def Kh (r:List V->Hp->VK->Prop)(t:TA):TE:=λ σ H Q=>t σ H λ vs H1=>r vs H1 Q
theorem eM (hc:dJ X (.builtin id) r) (hg:Gl X x)(hm:X.mg x=none)(hv:bootBuiltins x=some (.builtin id)) (ha:PA X (e :: es) t) (hn:x≠"__name__":=by decide)(jm:(x == ("__debug__":Str))=false:=by decide)
  (he:starEach (e :: es) X.env=(false,eval e X.env) :: starEach es X.env:=by rfl) (fe:(backTo pos (starEach es X.env)).any (·.1)=false:=by rfl):PE X (.Call (.Name x p) (e :: es) [] pos) (Kh r t):=by
 intro pins s σ H Q I h
 refine wpAny_Call_Name_kw (lH I hg hm hv ?_ hn jm)
 exact PyProof.Rows.callWith_builtin1 (bG (ha pos pins s σ H _ I h) λ us s1 ⟨vs,H1,I1,r1,q1⟩=>hc pins s1 σ H1 vs us Q I1 r1 q1) he fe
theorem ye (hc:dJ X (.type T) r) (hg:Gl X x)(hm:X.mg x=none)(hv:bootBuiltins x=some (.type T)) (ha:PA X (e :: es) t) (hn:x≠"__name__":=by decide)(jm:(x == ("__debug__":Str))=false:=by decide)
  (he:starEach (e :: es) X.env=(false,eval e X.env) :: starEach es X.env:=by rfl) (fe:(backTo pos (starEach es X.env)).any (·.1)=false:=by rfl):PE X (.Call (.Name x p) (e :: es) [] pos) (Kh r t):=by
 intro pins s σ H Q I h
 refine wpAny_Call_Name_kw (lH I hg hm hv ?_ hn jm)
 exact PyProof.Rows.callWith_type1 (bG (ha pos pins s σ H _ I h) λ us s1 ⟨vs,H1,I1,r1,q1⟩=>hc pins s1 σ H1 vs us Q I1 r1 q1) he fe
end
end L2
namespace HT
open PySem PyProof.Rows
section
open PySem.SeqAt
open PySem.AutoSeq1 (wpAny_loadPart')
open PySem.MeetsSeq PySem.MeetsSeq2 PySem.MeetsSeq3
end
section
variable {prog:Program}{w:World}{A:Around}{E:Value->Shared->Prop}{s:Shared}
theorem Fv {t b:Addr}{vs ws:List Value}{Q:Value->Shared->Prop}(ht:IsTup s.heap t vs.toArray)(hb:IsTup s.heap b ws.toArray)(hv:vs≠[])
  (h1:ws=[]->Q (.ref t) s) (h2:ws≠[]->Q (.ref s.heap.objs.size) { s with heap:=s.heap.push { cls:=.type "tuple",data:=.seq (vs++ws).toArray } })
  (hsz:vs.length+ws.length<=sizeLine):wpAny (model prog w) A (binaryOp .Add (.ref t) (.ref b)) Q E s:=by
 obtain⟨⟨cls,dd,data,sl⟩,ho,hc,n,hd⟩:=id ht
 obtain⟨⟨Qf,Mr,data2,Nm⟩,cU,L4,n2,hd2⟩:=id hb
 simp only at hc hd L4 hd2
 subst hc hd L4 hd2
 have e:vs.toArray++ws.toArray=(vs++ws).toArray:=by simp
 by_cases hw:ws=[]
 ·exact concat_meets ⟨_,ho,rfl⟩ ⟨_,cU,rfl⟩ noFill_tuple_add seq_tuple_add PySem.F.slot_tuple_add PySem.F.entry_tuple_add (PySem.F.args_tuple_add_2 _ _)
   (tuple_addW1 t b vs.toArray ws.toArray n n2 dd Mr sl Nm (by simpa using hv) (by simp[hw])) ⟨ho,cU,h1 hw⟩
 ·refine concat_meets ⟨_,ho,rfl⟩ ⟨_,cU,rfl⟩ noFill_tuple_add seq_tuple_add PySem.F.slot_tuple_add PySem.F.entry_tuple_add (PySem.F.args_tuple_add_2 _ _)
   (tuple_addW2 t b vs.toArray ws.toArray n n2 dd Mr sl Nm (by simpa using hv) (by simpa using hw) (by rw[List.size_toArray,List.size_toArray];exact hsz)) ⟨ho,cU,?_⟩
  rw[e]
  exact h2 hw
def dy (n d:Nat):Option Int->Nat
 | none=>d
 | some v=>if v < 0 then (v+(n:Int)).toNat else min v.toNat n
theorem GX (n d:Nat)(hd:d<=n)(o:Option Int):dy n d o<=n:=by
 cases o with
 | none=>exact hd
 | some v=>
  show(if v < 0 then (v+(n:Int)).toNat else min v.toNat n)<=n
  by_cases hv:v < 0
  ·rw[if_pos hv];omega
  ·rw[if_neg hv];exact Nat.min_le_right _ _
theorem xx (v:Int)(n d:Nat):(if v < 0 then max (v+(n:Int)) 0 else min v (n:Int))=((dy n d (some v):Nat):Int):=by
 show(if v < 0 then max (v+(n:Int)) 0 else min v (n:Int))=(((if v < 0 then (v+(n:Int)).toNat else min v.toNat n):Nat):Int)
 by_cases hv:v < 0
 ·simp only[if_pos hv];omega
 ·simp only[if_neg hv];omega
theorem wo (lo hi:Option Int)(n:Nat):Builtin.Slice.sliceAdjust lo hi 1 (n:Int)=(((dy n 0 lo:Nat):Int),((dy n n hi:Nat):Int)):=by
 have h1:¬ ((1:Int) < 0):=by omega
 unfold Builtin.Slice.sliceAdjust
 simp only[h1,if_false]
 refine Prod.ext ?_ ?_
 ·cases lo with
  | none=>rfl
  | some v=>exact xx v n 0
 ·cases hi with
  | none=>rfl
  | some v=>exact xx v n n
theorem vH (i j:Nat):Builtin.Slice.slicePlaces (i:Int) (j:Int) 1=j - i:=by
 unfold Builtin.Slice.slicePlaces
 have h1:(1:Int) > 0:=by omega
 simp only[h1,if_true,Int.ediv_one]
 split<;>omega
theorem pz {v:Value}{o:Option Int}{Q:Option Int->Shared->Prop}(p:IsPart v o)(h:Q o s):wpAny (model prog w) A (Builtin.Slice.slicePartIndex v) Q E s:=by
 cases p with
 | none=>exact slicePart_none h
 | int i t=>exact slicePart_int h
theorem iS {sl:Addr}{vl vu:Value}{lo hi:Option Int}{n:Nat}{Q:Int × Int × Nat->Shared->Prop}(hs:s.heap.IsSliceOf sl vl vu .none)(pl:IsPart vl lo)(pu:IsPart vu hi)
  (h:Q (((dy n 0 lo:Nat):Int),1,dy n n hi - dy n 0 lo) s):wpAny (model prog w) A (Builtin.Slice.sliceApplied (.ref sl) (pure (n:Int))) Q E s:=by
 obtain⟨os,IV,NH,LV⟩:=id hs
 unfold Builtin.Slice.sliceApplied Builtin.Slice.sliceFields
 refine wpAny_bind (wpAny_bind (wpAny_field IV LV (x:=vl) rfl (wpAny_bind (wpAny_field IV LV (x:=vu) rfl (wpAny_bind (wpAny_field IV LV (x:=.none) rfl (wpAny_pure ?_)))))))
 refine wpAny_bind (slicePart_none ?_)
 show wpAny _ _ (if ((1:Int) == 0)=true then _ else _) _ _ s
 rw[if_neg (by decide)]
 refine wpAny_bind (pz pl (wpAny_bind (pz pu (wpAny_bind (wpAny_pure ?_)))))
 show wpAny _ _ (match Builtin.Slice.sliceAdjust lo hi 1 (n:Int) with|(lo,hi)=>pure (lo,(1:Int),Builtin.Slice.slicePlaces lo hi 1)) _ _ s
 rw[wo lo hi n]
 show wpAny _ _ (pure (((dy n 0 lo:Nat):Int),(1:Int),Builtin.Slice.slicePlaces ((dy n 0 lo:Nat):Int) ((dy n n hi:Nat):Int) 1)) _ _ s
 rw[vH]
 exact wpAny_pure h
theorem Ab (xs:Array Value)(i k:Nat):((List.range k).filterMap λ(m:Nat)=>xs[((i:Int)+(m:Int) * 1).toNat]?).toArray=((xs.toList.drop i).take k).toArray:=by
 have e:(λ(m:Nat)=>xs[((i:Int)+(m:Int) * 1).toNat]?)=λ m=>xs[i+m]?:=by
  funext m
  have:((i:Int)+(m:Int) * 1).toNat=i+m:=by omega
  rw[this]
 rw[e]
 have:=pick_run xs i k
 rw[List.filterMap_map]at this
 have e2:((λ x=>xs[x]?) ∘ λ x=>i+x)=λ m=>xs[i+m]?:=rfl
 rw[e2]at this
 rw[this]
theorem mG {t sl:Addr}{items:Array Value}{vl vu:Value}{lo hi:Option Int}{Q:Value->Shared->Prop}(ht:IsTup s.heap t items)(hs:s.heap.IsSliceOf sl vl vu .none)(pl:IsPart vl lo)(pu:IsPart vu hi)
  (hw:¬ (dy items.size 0 lo=0/\dy items.size items.size hi=items.size))
  (h:Q (.ref s.heap.objs.size) { s with heap:=s.heap.push { cls:=.type "tuple",data:=.seq ((items.toList.drop (dy items.size 0 lo)).take (dy items.size items.size hi - dy items.size 0 lo)).toArray } })
  (hsz:items.size<=sizeLine):wpAny (model prog w) A (getItem (.ref t) (.ref sl)) Q E s:=by
 have xg:sizeOk (.seq ((items.toList.drop (dy items.size 0 lo)).take (dy items.size items.size hi - dy items.size 0 lo)).toArray):=by
  show((items.toList.drop (dy items.size 0 lo)).take (dy items.size items.size hi - dy items.size 0 lo)).toArray.size<=sizeLine
  rw[List.size_toArray,List.length_take,List.length_drop,Array.length_toList]
  omega
 have hj:dy items.size items.size hi<=items.size:=GX _ _ (Nat.le_refl _) hi
 obtain⟨os,IV,NH,LV⟩:=id hs
 have P2:s.TypeIs (.ref sl) "slice":=⟨os,IV,NH⟩
 unfold getItem
 try with_reducible refine wpAny_holding ?_
 first|refine wpAny_bind (wpAny_pure ?_)|skip
 refine wpAny_bind (wpAny_sequenceKey ht.typeIs (by decide) ?_)
 refine wpAny_bind (wpAny_callSpecial?_slot (name:=Str.ofString "__getitem__") ht.typeIs PyProof.Rows.slot_tuple_getitem
  (wpAny_call_entry PyProof.Rows.slot_tuple_getitem ht.typeIs entry_tuple_getitem ?_ (args_tuple_getitem _ _)))
 show wpAny _ _ (Builtin.Tuple.tupleItemsOf (.ref t) >>= _) _ _ s
 refine wpAny_bind (tupleItemsOf_ ht ?_)
 refine wpAny_bind (wpAny_typeOf P2 ?_)
 rw[if_pos (by decide)]
 refine wpAny_bind (iS hs pl pu ?_)
 have Sk:¬ ((((dy items.size 0 lo:Nat):Int) == 0 && (1:Int) == 1 && (dy items.size items.size hi - dy items.size 0 lo) == items.size)=true):=by
  intro q
  rw[Bool.and_eq_true,Bool.and_eq_true]at q
  have q1:((dy items.size 0 lo:Nat):Int)=0:=eq_of_beq q.1.1
  have q2:dy items.size items.size hi - dy items.size 0 lo=items.size:=eq_of_beq q.2
  exact hw ⟨by omega,by omega⟩
 show wpAny _ _ (if (((dy items.size 0 lo:Nat):Int) == 0 && (1:Int) == 1 && (dy items.size items.size hi - dy items.size 0 lo) == items.size)=true then _ else _) _ _ s
 rw[if_neg Sk,Ab]
 first
  | exact wpAny_bind (m:=Builtin.Tuple.tupleExact _) (wpAny_newObj_type (wpAny_pure ⟨_,rfl,wpAny_pure h⟩) xg)
  | exact wpAny_bind (m:=Builtin.Tuple.tupleExact _) (wpAny_newObj_type (wpAny_bind (wpAny_pure (wpAny_pure ⟨_,rfl,wpAny_pure h⟩))) xg)
  | exact wpAny_bind (wpAny_bind (m:=Builtin.Tuple.tupleExact _) (wpAny_newObj_type (wpAny_pure (wpAny_pure ⟨_,rfl,wpAny_pure h⟩)) xg))
  | exact wpAny_bind (wpAny_bind (m:=Builtin.Tuple.tupleExact _) (wpAny_newObj_type (wpAny_pure ⟨_,rfl,wpAny_pure h⟩) xg))
end
end HT
namespace L2
open PySem PySem.Spec PyProof.Rows
abbrev TO:=St->Hp->(Option Int->Hp->Prop)->Prop
def PO (X:Cx)(e:Option Expr)(t:TO):Prop:=
 ∀ (pins:List (Addr × Obj)) (s:Shared) (σ:St) (H:Hp) (Q:Option Int->Hp->Prop),Inv X pins σ H s->t σ H Q->
  wpAny (model X.prog X.w) X.A (evalPart e X.env) (λ u s'=>∃ o H',Inv X pins σ H' s'/\IsPart u o/\Q o H') X.xe s
def C2:TO:=λ _ H Q=>Q none H
def J_ (t:TE):TO:=λ σ H Q=>t σ H λ x H1=>∃ i,x=.int i/\Q (some i) H1
section
variable {X:Cx}{e:Expr}{te:TE}{lo hi:Option Expr}{tl th:TO}{pos p2:Pos}
theorem DE:PO X none C2:=by
 intro pins s σ H Q I h
 rw[evalPart_none]
 exact wpAny_pure ⟨none,H,I,.none,h⟩
theorem DD (h:PE X e te):PO X (some e) (J_ te):=by
 intro pins s σ H Q I hw
 rw[evalPart_some]
 refine bG (h pins s σ H _ I hw) λ u s1 ⟨x,H1,I1,r1,q1⟩=>?_
 obtain⟨i,rfl,q⟩:=q1
 obtain⟨t,rfl⟩:=r1
 exact⟨some i,H1,I1,.int i t,q⟩
def Na (X:Cx)(r:V->Option Int->Option Int->Hp->VK->Prop):Prop:=
 ∀ (pins:List (Addr × Obj)) (s:Shared) (σ:St) (H:Hp) (x:V) (v vl vu:Value) (lo hi:Option Int) (sl:Addr) (Q:VK),Inv X pins σ H s->RelV x v->s.heap.IsSliceOf sl vl vu .none->IsPart vl lo->IsPart vu hi->r x lo hi H Q->
  ∃ T id,typeLookup (.type T) "__getitem__"=pure (some (.builtin id))/\s.TypeIs v T/\wpAny (model X.prog X.w) X.A (getItem v (.ref sl)) (EP X pins σ Q) X.xe s
def Rv (r:V->Option Int->Option Int->Hp->VK->Prop)(te:TE)(tl th:TO):TE:=λ σ H Q=>te σ H λ x H1=>tl σ H1 λ l H2=>th σ H2 λ u H3=>r x l u H3 Q
theorem Ag {r:V->Option Int->Option Int->Hp->VK->Prop}(hr:Na X r)(he:PE X e te)(hl:PO X lo tl)(hu:PO X hi th):PE X (.Subscript e (.Slice lo hi none p2) pos) (Rv r te tl th):=by
 intro pins s σ H Q I h
 refine Subscript_ (bG (he pins s σ H _ I h) λ v s1 ⟨x,H1,I1,r1,q1⟩=>?_)
 refine wpAny_Slice (bG (hl pins s1 σ H1 _ I1 q1) λ vl s2 ⟨l,H2,I2,pl,q2⟩=>bG (hu pins s2 σ H2 _ I2 q2) λ vu s3 ⟨u,H3,I3,pu,q3⟩=>?_)
 rw[evalPart_none]
 refine wpAny_pure ?_
 have I4:Inv X pins σ H3 { s3 with heap:=s3.heap.push { cls:=.type "slice",data:=.fields #[vl,vu,.none] } }:=I3.kept (t':=s3.toks) λ b ob q=>Heap.get?_push_of_some _ q
 obtain⟨T,id,hT,ht,hg⟩:=hr pins { s3 with heap:=s3.heap.push { cls:=.type "slice",data:=.fields #[vl,vu,.none] } } σ H3 x v vl vu l u s3.heap.objs.size Q I4 r1 (Heap.IsSliceOf.new ..) pl pu q3
 show wpAny (model X.prog X.w) X.A (subscriptTail e (.Slice lo hi none p2) v (.ref s3.heap.objs.size)) (EP X pins σ Q) X.xe { s3 with heap:=s3.heap.push { cls:=.type "slice",data:=.fields #[vl,vu,.none] } }
 exact tail_any (ops:=[.ref s3.heap.objs.size,v]) ht hT hg (by with_unfolding_all rfl)
def qf (xs:List V)(lo hi:Option Int):List V:=(xs.drop (HT.dy xs.length 0 lo)).take (HT.dy xs.length xs.length hi - HT.dy xs.length 0 lo)
theorem og (xs:List V)(lo hi:Option Int):(qf xs lo hi).length<=xs.length:=by
 unfold qf
 rw[List.length_take,List.length_drop]
 omega
def Ox (K:PySem.W.Frag):V->Option Int->Option Int->Hp->VK->Prop:=λ x lo hi H Q=>∃ a xs,x=.ref a/\hR K H a xs/\
 ¬ (HT.dy xs.length 0 lo=0/\HT.dy xs.length xs.length hi=xs.length)/\∀ p,H p=none->Q (.ref p) (upd H p (.tup (qf xs lo hi)))
theorem GR:Na X (Ox X.K):=by
 intro pins s σ H x v vl vu lo hi sl Q I rx hs pl pu h
 obtain⟨a,xs,rfl,hx,hw,q⟩:=h
 cases rx
 obtain⟨its,r,ht,hz⟩:=I.tuple hx
 have hlen:its.toArray.size=xs.length:=by rw[List.size_toArray];exact r.length.symm
 refine⟨"tuple",_,PyProof.Rows.slot_tuple_getitem.lookup,ht.typeIs,?_⟩
 refine HT.mG ht hs pl pu (by rw[hlen];exact hw) ?_ (by rw[hlen];exact hz)
 rw[hlen]
 refine⟨.ref s.heap.objs.size,_,I.laid (t':=s.toks) (o:=.tup (qf xs lo hi)) (λ b ob q=>Heap.get?_push_of_some _ q) (Nat.le_refl _) ?_,rfl,q _ (I.aQ.fresh (Nat.le_refl _))⟩
 exact⟨Nat.le_trans (og xs lo hi) hz,_,(r.drop (HT.dy xs.length 0 lo)).take (HT.dy xs.length xs.length hi - HT.dy xs.length 0 lo),IsTup.new _ _⟩
def Ks (K:PySem.W.Frag):R2:=λ x y H Q=>∃ a b xs ys,x=.ref a/\y=.ref b/\hR K H a xs/\hR K H b ys/\xs≠[]/\xs.length+ys.length<=sizeLine/\
 (ys=[]->Q (.ref a) H)/\(ys≠[]->∀ p,H p=none->Q (.ref p) (upd H p (.tup (xs++ys))))
theorem Vals.oQ {xs:List V}{us:List Value}(r:Vals xs us):us=[] ↔ xs=[]:=by
 cases r with
 | nil=>simp
 | cons _ _=>simp
theorem DV:hU X (binaryOp .Add) (Ks X.K):=by
 intro pins s σ H x y v u Q I rx ry h
 obtain⟨a,b,xs,ys,rfl,rfl,ha,hb,hx,hz,q1,q2⟩:=h
 cases rx
 cases ry
 obtain⟨its,r1,p1,_⟩:=I.tuple ha
 obtain⟨df,r2,p2,_⟩:=I.tuple hb
 refine HT.Fv p1 p2 (λ z=>hx (r1.oQ.mp z)) (λ z=>⟨.ref a,H,I,rfl,q1 (r2.oQ.mp z)⟩) (λ z=>?_) (by rw[<-r1.length,<-r2.length];exact hz)
 refine⟨.ref s.heap.objs.size,_,I.laid (t':=s.toks) (o:=.tup (xs++ys)) (λ b ob q=>Heap.get?_push_of_some _ q) (Nat.le_refl _) ?_,rfl,q2 (λ w=>z (r2.oQ.mpr w)) _ (I.aQ.fresh (Nat.le_refl _))⟩
 exact⟨by rw[List.length_append];exact hz,_,r1.append r2,IsTup.new _ _⟩
end
end L2
namespace L2
open PySem PySem.Spec PyProof.Rows
def xb (n:Nat)(i:Int):Option Nat:=if 0<=i then (if i < n then some i.toNat else none) else if -(n:Int)<=i then some (i+n).toNat else none
def jx {α:Type}(xs:List α)(i:Int):Option α:=(xb xs.length i).bind λ j=>xs[j]?
theorem sV {n:Nat}{i:Int}{j:Nat}(h:xb n i=some j):seqIndex? i n=some j/\j < n/\-(n:Int)<=i/\i < n:=by
 unfold xb at h
 by_cases h0:0<=i
 ·rw[if_pos h0]at h
  by_cases h1:i < n
  ·rw[if_pos h1]at h
   have e:i.toNat=j:=Option.some.inj h
   exact⟨by rw[seqIndex_of h0 h1,e],by omega,by omega,h1⟩
  ·rw[if_neg h1]at h;cases h
 ·rw[if_neg h0]at h
  by_cases h1:-(n:Int)<=i
  ·rw[if_pos h1]at h
   have e:(i+n).toNat=j:=Option.some.inj h
   exact⟨by rw[seqIndex_neg (by omega) h1,e],by omega,h1,by omega⟩
  ·rw[if_neg h1]at h;cases h
theorem tX {α:Type}{xs:List α}{i:Int}{v:α}(h:jx xs i=some v):∃ j,seqIndex? i xs.length=some j/\xs[j]? = some v/\j < xs.length/\-(xs.length:Int)<=i/\i < xs.length:=by
 unfold jx at h
 cases e:xb xs.length i with
 | none=>rw[e]at h;cases h
 | some j=>
  rw[e]at h
  obtain⟨h1,h2,h3,h4⟩:=sV e
  exact⟨j,h1,h,h2,h3,h4⟩
theorem jw {α:Type}{xs:List α}{j:Nat}{v:α}(h:xs[j]? = some v):jx xs (j:Int)=some v:=by
 have hj:j < xs.length:=(List.getElem?_eq_some_iff.mp h).1
 have e:xb xs.length (j:Int)=some j:=by
  unfold xb
  rw[if_pos (by omega),if_pos (by omega)];simp
 unfold jx;rw[e];exact h
def xG (b:Expr):Prop:=∀ o i,subscripted b false o i=operate [o,i] (getItem o i)
def JT (X:Cx)(r:R2):Prop:=
 ∀ (value slice:Expr) (pins:List (Addr × Obj)) (s:Shared) (σ:St) (H:Hp) (x y:V) (v u:Value) (Q:VK),Inv X pins σ H s->RelV x v->RelV y u->r x y H Q->
  subscripted slice false v u=operate [v,u] (getItem v u)->wpAny (model X.prog X.w) X.A (subscriptTail value slice v u) (EP X pins σ Q) X.xe s
def yT (X:Cx)(id:String)(r:V->List V->Hp->VK->Prop):Prop:=
 ∀ (pins:List (Addr × Obj)) (s:Shared) (σ:St) (H:Hp) (x:V) (xs:List V) (v:Value) (us:List Value) (Q:VK),Inv X pins σ H s->RelV x v->Vals xs us->r x xs H Q->
  wpAny (model X.prog X.w) X.A (call (.builtin id) (v :: us)) (EP X pins σ Q) X.xe s
section
variable {X:Cx}{a b:Expr}{ta tb:TE}{pos:Pos}
theorem KD {r:R2}(hr:JT X r)(ha:PE X a ta)(hb:PE X b tb)(hs:xG b):PE X (.Subscript a b pos) (J' r ta tb):=by
 intro pins s σ H Q I h
 exact Subscript_ (Jt ha hb I h λ v u s2 x y H2 I2 rx ry q=>hr a b pins s2 σ H2 x y v u Q I2 rx ry q (hs _ _))
def OC (K:PySem.W.Frag):R2:=λ x y H Q=>∃ p xs i v,x=.ref p/\y=.int i/\fh K H p xs/\jx xs i=some v/\Q v H
def OA (K:PySem.W.Frag):R2:=λ x y H Q=>∃ p xs i v,x=.ref p/\y=.int i/\hR K H p xs/\jx xs i=some v/\Q v H
def OB:R2:=λ x y H Q=>∃ z i c,x=.str z/\y=.int i/\z.length<=sizeLine/\jx z.cps.toList i=some c/\Q (.str ⟨#[c]⟩) H
theorem w_:JT X (OC X.K):=by
 intro value slice pins s σ H x y v u Q I rx ry h hs
 obtain⟨p,xs,i,z,rfl,rfl,hq,he,q⟩:=h
 cases rx
 obtain⟨t,rfl⟩:=ry
 obtain⟨its,r,pl,hz⟩:=I.list hq
 obtain⟨j,h1,h2,h3,h4,h5⟩:=tX he
 obtain⟨w,ew,sA⟩:=r.get h2
 have hl:=r.length
 have hn:=jX
 have fin:EP X pins σ Q w s:=⟨z,H,I,sA,q⟩
 by_cases h0:0<=i
 ·have hj:i.toNat=j:=by
   rw[seqIndex_of h0 h5]at h1
   exact Option.some.inj h1
  exact item_listR pl.isList h0 (by omega) (by rw[hj];simpa using ew) fin hs
 ·have hj:(i+(its.toArray.size:Int)).toNat=j:=by
   rw[seqIndex_neg (by omega) h4]at h1
   rw[List.size_toArray,<-hl]
   exact Option.some.inj h1
  exact subscriptTail_builtinR (x:=w) pl.isList.typeIs slot_list_getitem.lookup
   (wpAny_getItem_list_neg (Q:=λ r s'=>r=w/\EP X pins σ Q r s') pl.isList (by omega) (by rw[List.size_toArray]<;>omega) (by omega) (by rw[hj];simpa using ew) ⟨rfl,fin⟩) hs
theorem IM:JT X (OA X.K):=by
 intro value slice pins s σ H x y v u Q I rx ry h hs
 obtain⟨p,xs,i,z,rfl,rfl,hq,he,q⟩:=h
 cases rx
 obtain⟨t,rfl⟩:=ry
 obtain⟨its,r,pl,hz⟩:=I.tuple hq
 obtain⟨j,h1,h2,h3,h4,h5⟩:=tX he
 obtain⟨w,ew,sA⟩:=r.get h2
 have hl:=r.length
 have hn:=jX
 have fin:EP X pins σ Q w s:=⟨z,H,I,sA,q⟩
 exact subscriptTail_builtinR (x:=w) pl.typeIs slot_tuple_getitem.lookup
  (getItem_tuple (j:=j) (Q:=λ r s'=>r=w/\EP X pins σ Q r s') pl (by omega) (by omega) (by rw[List.size_toArray,<-hl];exact h1) (by simpa using ew) ⟨rfl,fin⟩) hs
theorem IP:JT X OB:=by
 intro value slice pins s σ H x y v u Q I rx ry h hs
 obtain⟨z,i,c,rfl,rfl,hz,he,q⟩:=h
 obtain⟨t,rfl⟩:=rx
 obtain⟨t',rfl⟩:=ry
 obtain⟨j,h1,h2,h3,h4,h5⟩:=tX he
 have hl:z.cps.toList.length=z.length:=by simp[Str.length]
 rw[hl]at h1 h4 h5
 have hn:=jX
 exact tail_any (typeIs_str s z t) slot_str_getitem.lookup (getItem_str (c:=c) (by
  have e1:decide (i < -(2 ^ 63:Int))=false:=decide_eq_false (by omega)
  have e2:decide (i ≥ 2 ^ 63)=false:=decide_eq_false (by omega)
  rw[e1,e2,Bool.or_false]) (by rw[h1];simpa using h2) ⟨.str ⟨#[c]⟩,H,I.tok _,⟨_,rfl⟩,q⟩) hs
theorem vQ (its:List Value)(n j:Nat)(u:Value):Obj.mapSeq (·.setIfInBounds j u) { cls:=.type "list",data:=.seq its.toArray n }={ cls:=.type "list",data:=.seq (its.set j u).toArray n }:=by
 simp[Obj.mapSeq]
theorem Inv.lst {pins:List (Addr × Obj)}{σ:St}{H:Hp}{s:Shared}{p:Addr}{xs:List V}(I:Inv X pins σ H s)(h:H p=some (.lst xs)) :
  ∃ (its:List Value) (n:Nat),Vals xs its/\s.heap.get? p=some { cls:=.type "list",data:=.seq its.toArray n }/\xs.length<=sizeLine:=by
 obtain⟨z,its,n,r,e⟩:=I.aQ p _ h
 exact⟨its,n,r,e,z⟩
theorem Inv.IB {pins:List (Addr × Obj)}{σ:St}{H:Hp}{s:Shared}{p:Addr}{xs ys:List V}{its its':List Value}{n n':Nat}{f:Obj->Obj}(I:Inv X pins σ H s)(h:H p=some (.lst xs))
  (ho:s.heap.get? p=some { cls:=.type "list",data:=.seq its.toArray n }) (hf:f { cls:=.type "list",data:=.seq its.toArray n }={ cls:=.type "list",data:=.seq its'.toArray n' }) (r:Vals ys its') (hz:ys.length<=sizeLine) (t:Nat) :
  Inv X pins σ (upd H p (.lst ys)) { s with heap:=s.heap.update p f,toks:=t }:=by
 have e:(s.heap.update p f).get? p=some { cls:=.type "list",data:=.seq its'.toArray n' }:=by
  rw[Heap.get?_update_self f ho (by rw[hf]<;>rfl),hf]
 refine I.write (x:=p) (e:=p) (by rw[h];trivial) (.inl rfl) (λ b u hb q=>(Heap.get?_update_other _ _ (Ne.symm hb)).trans q) ⟨_,e⟩ ?_
 exact⟨hz,its',n',r,e⟩
def Ko:V->V->V->Hp->(Hp->Prop)->Prop:=λ o i v H Q=>∃ p xs k j,o=.ref p/\i=.int k/\H p=some (.lst xs)/\xb xs.length k=some j/\Q (upd H p (.lst (xs.set j v)))
theorem set_list:Jy X Ko:=by
 intro pins s σ H o i v ov iv u Q I ro ri rv h
 obtain⟨p,xs,k,j,rfl,rfl,hp,hj,q⟩:=h
 cases ro
 obtain⟨t,rfl⟩:=ri
 obtain⟨its,n,r,ho,hz⟩:=I.lst hp
 obtain⟨h1,h2,h3,h4⟩:=sV hj
 have hl:=r.length
 have hn:=jX
 have I':Inv X pins σ (upd H p (.lst (xs.set j v))) { s with heap:=s.heap.update p (Obj.mapSeq (·.setIfInBounds j u)) }:=
  I.IB hp ho (vQ its n j u) (r.set rv j) (by rw[List.length_set];exact hz) s.toks
 by_cases h0:0<=k
 ·have hk:k.toNat=j:=by
   rw[seqIndex_of h0 h4]at h1
   exact Option.some.inj h1
  exact PySem.W.ki_setAt ho h0 (by omega) (by rw[List.size_toArray,<-hl];exact h4) (by rw[hk];exact⟨_,I',q⟩)
 ·have hk:(k+(its.toArray.size:Int)).toNat=j:=by
   rw[seqIndex_neg (by omega) h3]at h1
   rw[List.size_toArray,<-hl]
   exact Option.some.inj h1
  exact PySem.W.ki_setBack ho (by omega) (by rw[List.size_toArray,<-hl];exact h3) (by omega) (by rw[hk];exact⟨_,I',q⟩)
theorem sv (lo hi:Option Int)(n:Nat):(sliceBounds lo hi none n).1=((HT.dy n 0 lo:Nat):Int)/\(sliceBounds lo hi none n).2.1=((HT.dy n n hi:Nat):Int)/\(sliceBounds lo hi none n).2.2=1:=by
 refine⟨?_,?_,rfl⟩
 ·cases lo with
  | none=>simp[sliceBounds,HT.dy]
  | some i=>
   simp only[sliceBounds,HT.dy,Option.getD_none,show(1:Int) > 0 by decide,if_true]
   by_cases h:i < 0
   ·simp only[h,if_true]<;>omega
   ·simp only[h,if_false]<;>omega
 ·cases hi with
  | none=>simp[sliceBounds,HT.dy]
  | some i=>
   simp only[sliceBounds,HT.dy,Option.getD_none,show(1:Int) > 0 by decide,if_true]
   by_cases h:i < 0
   ·simp only[h,if_true]<;>omega
   ·simp only[h,if_false]<;>omega
theorem qt (its:List Value)(lo hi:Option Int):slicePick its.toArray lo hi none=((its.drop (HT.dy its.length 0 lo)).take (HT.dy its.length its.length hi - HT.dy its.length 0 lo)).toArray:=by
 obtain⟨h1,h2,h3⟩:=sv lo hi its.toArray.size
 unfold slicePick
 rw[h1,h2,h3]
 simp only[sliceRange_one,pick_run,List.size_toArray]<;>rfl
def Oy (K:PySem.W.Frag):V->Option Int->Option Int->Hp->VK->Prop:=λ x lo hi H Q=>∃ a xs,x=.ref a/\fh K H a xs/\∀ p,H p=none->Q (.ref p) (upd H p (.lst (qf xs lo hi)))
theorem wD:Na X (Oy X.K):=by
 intro pins s σ H x v vl vu lo hi sl Q I rx hs pl pu h
 obtain⟨a,xs,rfl,hx,q⟩:=h
 cases rx
 obtain⟨its,r,ht,hz⟩:=I.list hx
 have hlen:=r.length
 refine⟨"list",_,slot_list_getitem.lookup,ht.isList.typeIs,?_⟩
 refine wpAny_getItem_list_slice ht.isList hs pl pu .none (by simp) ?_ (by rw[List.size_toArray]<;>omega)
 rw[qt,<-hlen]
 refine⟨.ref s.heap.objs.size,_,I.laid (t':=s.toks) (o:=.lst (qf xs lo hi)) (λ b ob q=>Heap.get?_push_of_some _ q) (Nat.le_refl _) ?_,rfl,q _ (I.aQ.fresh (Nat.le_refl _))⟩
 exact⟨Nat.le_trans (og xs lo hi) hz,_,0,(r.drop (HT.dy xs.length 0 lo)).take (HT.dy xs.length xs.length hi - HT.dy xs.length 0 lo),Heap.get?_push_size _ rfl⟩
def mK:V->Bool
 | .az=>true
 | .bl _=>true
 | .int _=>true
 | .str _=>true
 | _=>false
def iG:V->V->Bool
 | .az,.az=>true
 | .bl a,.bl b=>a == b
 | .bl a,.int b=>(if a then 1 else 0) == b
 | .int a,.bl b=>a == (if b then 1 else 0)
 | .int a,.int b=>a == b
 | .str a,.str b=>a == b
 | _,_=>false
theorem aW {A:Around}{s:Shared}{y x:V}{u v:Value}(ry:RelV y u)(rx:RelV x v)(fy:mK y=true)(fx:mK x=true):SeqAt.EqAt A s u v (iG y x):=by
 cases y with
 | az=>
  cases ry
  cases x with
  | az=>cases rx;exact SeqAt.EqAt.same _
  | bl b=>cases rx;exact SeqAt.EqAt.none_bool b
  | int b=>obtain⟨t,rfl⟩:=rx;exact SeqAt.EqAt.none_int b t
  | str b=>obtain⟨t,rfl⟩:=rx;exact SeqAt.EqAt.none_str b t
  | _=>exact absurd (show false=true from fx) Bool.false_ne_true
 | bl a=>
  cases ry
  cases x with
  | az=>cases rx;exact SeqAt.EqAt.bool_none a
  | bl b=>cases rx;exact SeqAt.EqAt.bool_bool a b
  | int b=>obtain⟨t,rfl⟩:=rx;exact SeqAt.EqAt.bool_int a b t
  | str b=>obtain⟨t,rfl⟩:=rx;exact SeqAt.EqAt.bool_str a b t
  | _=>exact absurd (show false=true from fx) Bool.false_ne_true
 | int a=>
  obtain⟨t',rfl⟩:=ry
  cases x with
  | az=>cases rx;exact SeqAt.EqAt.int_none a t'
  | bl b=>cases rx;exact SeqAt.EqAt.int_bool a t' b
  | int b=>obtain⟨t,rfl⟩:=rx;exact SeqAt.EqAt.int_int a t' b t
  | str b=>obtain⟨t,rfl⟩:=rx;exact SeqAt.EqAt.int_str a t' b t
  | _=>exact absurd (show false=true from fx) Bool.false_ne_true
 | str a=>
  obtain⟨t',rfl⟩:=ry
  cases x with
  | az=>cases rx;exact SeqAt.EqAt.str_none a t'
  | bl b=>cases rx;exact SeqAt.EqAt.str_bool a t' b
  | int b=>obtain⟨t,rfl⟩:=rx;exact SeqAt.EqAt.str_int a t' b t
  | str b=>obtain⟨t,rfl⟩:=rx;exact SeqAt.EqAt.str_str a t' b t
  | _=>exact absurd (show false=true from fx) Bool.false_ne_true
 | _=>exact absurd (show false=true from fy) Bool.false_ne_true
def wa (x:V)(u:Value):Bool:=match u with
 | .none=>iG .az x
 | .bool b=>iG (.bl b) x
 | .int i _=>iG (.int i) x
 | .str z _=>iG (.str z) x
 | _=>false
theorem BU {x y:V}{u:Value}(r:RelV y u)(f:mK y=true):wa x u=iG y x:=by
 cases y with
 | az=>cases r;rfl
 | bl b=>cases r;rfl
 | int i=>obtain⟨t,rfl⟩:=r;rfl
 | str z=>obtain⟨t,rfl⟩:=r;rfl
 | _=>exact absurd (show false=true from f) Bool.false_ne_true
theorem mN {x:V}:∀ {xs:List V}{us:List Value},Vals xs us->xs.all mK=true->us.any (wa x)=xs.any λ y=>iG y x
 | _,_,.nil,_=>rfl
 | y :: xs,u :: us,.cons r t,f=>by
  rw[List.all_cons,Bool.and_eq_true]at f
  rw[List.any_cons,List.any_cons,BU r f.1,mN t f.2]
theorem jV {A:Around}{s:Shared}{x:V}{v:Value}(rx:RelV x v)(fx:mK x=true):∀ {xs:List V}{us:List Value},Vals xs us->xs.all mK=true->∀ u∈us,SeqAt.EqAt A s u v (wa x u)
 | _,_,.nil,_=>λ u hu=>by cases hu
 | y :: xs,u :: us,.cons r t,f=>λ u' hu=>by
  rw[List.all_cons,Bool.and_eq_true]at f
  rcases List.mem_cons.mp hu with rfl|hu
  ·rw[BU r f.1];exact aW r rx f.1 fx
  ·exact jV rx fx t f.2 u' hu
def Nw (x:V)(xs:List V):Bool:=xs.any λ y=>iG y x
def QA (K:PySem.W.Frag)(neg:Bool):R2:=λ x y H Q=>∃ p xs,y=.ref p/\(fh K H p xs∨hR K H p xs)/\mK x=true/\xs.all mK=true/\Q (.bl (if neg then !Nw x xs else Nw x xs)) H
theorem yh:hU X (compareOp .In) (QA X.K false):=by
 intro pins s σ H x y v u Q I rx ry h
 obtain⟨p,xs,rfl,hq,fx,fs,q⟩:=h
 cases ry
 rcases hq with hq|hq
 ·obtain⟨its,r,pl,hz⟩:=I.list hq
  refine SeqAt.in_listAt (wa x) pl.isList (λ w hw=>jV rx fx r fs w (by simpa using hw)) ⟨.bl _,H,I,rfl,?_⟩
  rw[show its.toArray.any (wa x)=its.any (wa x) by simp,mN r fs]
  exact q
 ·obtain⟨its,r,pl,hz⟩:=I.tuple hq
  refine SeqAt.in_tupleAt (wa x) pl (λ w hw=>jV rx fx r fs w (by simpa using hw)) ⟨.bl _,H,I,rfl,?_⟩
  rw[show its.toArray.any (wa x)=its.any (wa x) by simp,mN r fs]
  exact q
theorem sI:hU X (compareOp .NotIn) (QA X.K true):=by
 intro pins s σ H x y v u Q I rx ry h
 obtain⟨p,xs,rfl,hq,fx,fs,q⟩:=h
 cases ry
 rcases hq with hq|hq
 ·obtain⟨its,r,pl,hz⟩:=I.list hq
  refine SeqAt.notIn_listAt (wa x) pl.isList (λ w hw=>jV rx fx r fs w (by simpa using hw)) ⟨.bl _,H,I,rfl,?_⟩
  rw[show its.toArray.any (wa x)=its.any (wa x) by simp,mN r fs]
  exact q
 ·obtain⟨its,r,pl,hz⟩:=I.tuple hq
  refine SeqAt.notIn_tupleAt (wa x) pl (λ w hw=>jV rx fx r fs w (by simpa using hw)) ⟨.bl _,H,I,rfl,?_⟩
  rw[show its.toArray.any (wa x)=its.any (wa x) by simp,mN r fs]
  exact q
theorem tR:dJ X (.builtin "len") (λ xs H Q=>∃ p ys,xs=[.ref p]/\(fh X.K H p ys∨hR X.K H p ys)/\Q (.int ys.length) H):=by
 intro pins s σ H xs us Q I r h
 obtain⟨p,ys,rfl,hq,q⟩:=h
 obtain⟨u,rfl,rx⟩:=vals1 r
 cases rx
 have hn:=jX
 rcases hq with hq|hq
 ·obtain⟨its,r',pl,hz⟩:=I.list hq
  have hlen:=r'.length
  exact Calls.call_len_list pl.isList (by simp only[List.size_toArray]<;>omega) ⟨.int ys.length,H,I.tok _,⟨s.toks+1,by rw[List.size_toArray,hlen]⟩,q⟩
 ·obtain⟨its,r',pl,hz⟩:=I.tuple hq
  have hlen:=r'.length
  exact len_tuple pl (by simp only[List.size_toArray]<;>omega) ⟨.int ys.length,H,I.tok _,⟨s.toks+1,by rw[List.size_toArray,hlen]⟩,q⟩
theorem tN:dJ X (.builtin "len") (λ xs H Q=>∃ z,xs=[.str z]/\z.length<=sizeLine/\Q (.int z.length) H):=by
 intro pins s σ H xs us Q I r h
 obtain⟨z,rfl,hz,q⟩:=h
 obtain⟨u,rfl,t,rfl⟩:=vals1 r
 have hn:=jX
 exact len_str (by omega) ⟨.int z.length,H,I.tok _,⟨_,rfl⟩,q⟩
theorem tM:dJ X (.type "list") (λ xs H Q=>∃ p ys,xs=[.ref p]/\(fh X.K H p ys∨hR X.K H p ys)/\∀ l,H l=none->Q (.ref l) (upd H l (.lst ys))):=by
 intro pins s σ H xs us Q I r h
 obtain⟨p,ys,rfl,hq,q⟩:=h
 obtain⟨u,rfl,rx⟩:=vals1 r
 cases rx
 have fin:∀ (its:List Value),Vals ys its->ys.length<=sizeLine->∀ (h':Heap) (c':Nat),(∀ b o',s.heap.get? b=some o'->h'.get? b=some o')->
   h'.get? s.heap.objs.size=some { cls:=.type "list",dict:=none,data:=.seq its.toArray c',slots:=#[] }->EP X pins σ Q (.ref s.heap.objs.size) { s with heap:=h' }:=λ its r' hz h' c' kp e=>
  ⟨.ref s.heap.objs.size,_,I.laid (t':=s.toks) kp (Nat.le_refl _) (show bQ X.prog X.w _ h' _ (.lst ys) from⟨hz,its,c',r',e⟩),rfl,q _ (I.aQ.fresh (Nat.le_refl _))⟩
 rcases hq with hq|hq
 ·obtain⟨its,r',pl,hz⟩:=I.list hq
  have hlen:=r'.length
  obtain⟨o,ho,hc,n,hd⟩:=pl.isList
  exact call_list_seq p (.inl rfl) ho hc hd (λ h' c' kp e=>fin its r' hz h' c' kp e) (by simp only[List.size_toArray]<;>omega)
 ·obtain⟨its,r',pl,hz⟩:=I.tuple hq
  have hlen:=r'.length
  obtain⟨o,ho,hc,n,hd⟩:=pl
  exact call_list_seq p (.inr rfl) ho hc hd (λ h' c' kp e=>fin its r' hz h' c' kp e) (by simp only[List.size_toArray]<;>omega)
def Nk (K:PySem.W.Frag)(T:String)(x:V)(H:Hp):Prop:=match x with
 | .str _=>T="str"
 | .int _=>T="int"
 | .ref p=>(T="list"/\∃ xs,fh K H p xs)∨(T="tuple"/\∃ o,K.lookup p=some o/\o.cls=.type "tuple"/\o.dict=none)∨
   (T="dict"/\((∃ kvs,H p=some (.dK kvs))∨∃ kvs,H p=some (.dT kvs)))∨(T="set"/\∃ S n,H p=some (.set S n))
 | _=>False
theorem vq {pins:List (Addr × Obj)}{σ:St}{H:Hp}{s:Shared}{T:String}{x:V}{v:Value}(I:Inv X pins σ H s)(r:RelV x v)(ty:Nk X.K T x H) :
  s.TypeIs v T/\∀ a,v=.ref a->∃ ob,s.heap.get? a=some ob/\ob.dict=none:=by
 cases x with
 | str z=>
  obtain⟨t,rfl⟩:=r
  cases (show T="str" from ty)
  exact⟨typeIs_str s z t,λ _ e=>nomatch e⟩
 | int i=>
  obtain⟨t,rfl⟩:=r
  cases (show T="int" from ty)
  exact⟨typeIs_int s i t,λ _ e=>nomatch e⟩
 | ref p=>
  cases r
  rcases ty with⟨rfl,xs,hq⟩|⟨rfl,o,hk,hc,hd⟩|⟨rfl,hk⟩|⟨rfl,S,n,hk⟩
  ·obtain⟨its,_,pl,_⟩:=I.list hq
   refine⟨pl.isList.typeIs,λ a e=>?_⟩
   cases e
   obtain⟨o,n,e,c,hd,_⟩:=pl
   exact⟨o,e,hd⟩
  ·refine⟨⟨o,I.jl p o hk,hc⟩,λ a e=>?_⟩
   cases e
   exact⟨o,I.jl _ o hk,hd⟩
  ·have z:∃ o,s.heap.get? p=some o/\o.ExactDict:=by
    rcases hk with⟨kvs,hk⟩|⟨kvs,hk⟩
    ·obtain⟨_,_,_,_,o,_,_,e,ex,_⟩:=I.aQ p _ hk
     exact⟨o,e,ex⟩
    ·obtain⟨_,_,_,_,o,_,_,e,ex,_⟩:=I.aQ p _ hk
     exact⟨o,e,ex⟩
   obtain⟨o,e,ex⟩:=z
   refine⟨⟨o,e,ex.1⟩,λ a e2=>?_⟩
   cases e2
   exact⟨o,e,ex.2.1⟩
  ·obtain⟨o,_,_,_,e,ex,_⟩:=I.aQ p _ hk
   refine⟨⟨o,e,ex.1⟩,λ a e2=>?_⟩
   cases e2
   exact⟨o,e,ex.2.1⟩
 | _=>exact False.elim ty
def Oh (K:PySem.W.Frag)(T:String)(r:V->List V->Hp->VK->Prop)(to:TE):TE:=λ σ H Q=>to σ H λ x H1=>Nk K T x H1/\r x [] H1 Q
def Oi (K:PySem.W.Frag)(T:String)(r:V->List V->Hp->VK->Prop)(to:TE)(t:TA):TE:=λ σ H Q=>to σ H λ x H1=>Nk K T x H1/\t σ H1 λ xs H2=>r x xs H2 Q
variable {o e:Expr}{es:List Expr}{to:TE}{t:TA}{name:Str}{apos br:Pos}{T id:String}{r:V->List V->Hp->VK->Prop}
theorem Ap (pa:PlainAttrs T)(slot:Slot T name id)(Br:typeOf (.builtin id)=pure (.type "method_descriptor")) (hm:yT X id r)(ho:PE X o to)
  (i4:attributeBase o name X.env (eval o X.env)=eval o X.env:=by rfl) (i3:(apos.endLine == br.line)=true:=by rfl):PE X (.Call (.Attribute o name apos) [] [] br) (Oh X.K T r to):=by
 intro pins s σ H Q I h
 refine wpAny_Call_method0_late i4 i3 (bG (ho pins s σ H _ I h) λ v s1 ⟨x,H1,I1,r1,ty,q1⟩=>?_)
 obtain⟨h1,h2⟩:=vq I1 r1 ty
 exact⟨T,id,pa,slot,Br,h1,h2,Calls.callWith_builtin rfl (PySem.evalArgs_none (hm pins s1 σ H1 x [] v [] Q I1 r1 .nil q1))⟩
theorem KG (pa:PlainAttrs T)(slot:Slot T name id)(Br:typeOf (.builtin id)=pure (.type "method_descriptor")) (hm:yT X id r)(ho:PE X o to)(ha:PA X (e :: es) t)
  (i4:attributeBase o name X.env (eval o X.env)=eval o X.env:=by rfl)
  (vY:((backTo br (starEach (e :: es) X.env)).all (λ x=>!x.1) && (backToKw br (keywordEach [] X.env)).all (λ x=>x.1.isSome)
   && decide ((e :: es).length+([]:List Keyword).length+(if ([]:List Keyword).isEmpty then 0 else 1) < 30))=true:=by rfl)
  (i3:(apos.endLine == br.line)=true:=by rfl) (hs:starEach (e :: es) X.env=(false,eval e X.env) :: starEach es X.env:=by rfl) (lJ:(backTo br (starEach es X.env)).any (·.1)=false:=by rfl) :
  PE X (.Call (.Attribute o name apos) (e :: es) [] br) (Oi X.K T r to t):=by
 intro pins s σ H Q I h
 refine wpAny_Call_method_late i4 vY i3 rfl (bG (ho pins s σ H _ I h) λ v s1 ⟨x,H1,I1,r1,ty,q1⟩=>?_)
 obtain⟨h1,h2⟩:=vq I1 r1 ty
 refine⟨T,id,pa,slot,Br,h1,h2,?_⟩
 have hA:=ha br pins s1 σ H1 _ I1 q1
 rw[hs]at hA ⊢
 refine Calls.callWith_builtin (by show(false || (backTo br (starEach es X.env)).any (·.1))=false;rw[lJ]<;>rfl) (Calls.evalArgs_plain ?_)
 exact bG hA λ us s2 ⟨vs,H2,I2,r2,q2⟩=>hm pins s2 σ H2 x vs v us Q I2 r1 r2 q2
end
end L2
namespace L2
open PySem PySem.Spec PyProof.Rows
def Nb (X:Cx)(id:String)(r:V->List V->Hp->VK->Prop):Prop:=
 ∀ (pins:List (Addr × Obj)) (s:Shared) (σ:St) (H:Hp) (x:V) (xs:List V) (v:Value) (us:List Value) (Q:VK),Inv X pins σ H s->RelV x v->Vals xs us->r x xs H Q->
  wpAny (model X.prog X.w) X.A (call (.builtin id) (v :: us)) (EP X pins σ Q) X.xe s
theorem Vals.one:∀ {x:V}{us:List Value},Vals [x] us->∃ u,us=[u]/\RelV x u
 | _,_,.cons r .nil=>⟨_,rfl,r⟩
theorem Vals.zero:∀ {us:List Value},Vals [] us->us=[]
 | _,.nil=>rfl
theorem Vals.dropLast {xs:List V}{us:List Value}(h:Vals xs us):Vals xs.dropLast us.dropLast:=by
 induction h with
 | nil=>exact .nil
 | cons r t ih=>
  cases t with
  | nil=>exact .nil
  | cons q t'=>exact .cons r ih
theorem Vals.eraseIdx:∀ {xs:List V}{us:List Value}(i:Nat),Vals xs us->Vals (xs.eraseIdx i) (us.eraseIdx i)
 | _,_,_,.nil=>.nil
 | _,_,0,.cons _ t=>t
 | _,_,i+1,.cons r t=>.cons r (Vals.eraseIdx i t)
theorem Vals.reverse {xs:List V}{us:List Value}(h:Vals xs us):Vals xs.reverse us.reverse:=by
 induction h with
 | nil=>exact .nil
 | cons r t ih=>rw[List.reverse_cons,List.reverse_cons];exact Vals.append ih (.cons r .nil)
theorem v_ {α:Type}(l:List α):l.eraseIdx (l.length - 1)=l.dropLast:=by
 induction l with
 | nil=>rfl
 | cons a r ih=>
  cases r with
  | nil=>rfl
  | cons b r=>
   have e:(a :: b :: r).length - 1=((b :: r).length - 1)+1:=by
    have h1:(a :: b :: r).length=r.length+2:=rfl
    have h2:(b :: r).length=r.length+1:=rfl
    omega
   rw[e,List.eraseIdx_cons_succ,ih]
   all_goals rfl
theorem rq {α:Type}:∀ (l:List α) (i:Nat),(l.eraseIdx i).length<=l.length
 | [],_=>Nat.le_refl _
 | _ :: _,0=>Nat.le_succ _
 | _ :: r,i+1=>Nat.succ_le_succ (rq r i)
section
variable {X:Cx}{pins:List (Addr × Obj)}{σ:St}{H:Hp}{s:Shared}{l b:Addr}{xs ys zs:List V}
theorem Inv.Ba {its its':List Value}{n:Nat}{f:Array Value->Array Value}{t':Nat}(I:Inv X pins σ H s)(hH:H l=some (.lst xs))
  (e:s.heap.get? l=some { cls:=.type "list",data:=.seq its.toArray n }) (hf:f its.toArray=its'.toArray) (hv:Vals ys its') (hz:ys.length<=sizeLine) :
  Inv X pins σ (upd H l (.lst ys)) { s with heap:=s.heap.update l (Obj.mapSeq f),toks:=t' }:=by
 have q:=PySem.IsL.update e f
 rw[hf]at q
 refine I.write (x:=l) (e:=l) (by rw[hH];exact trivial) (.inl rfl) (λ b' u hb hu=>(Heap.get?_update_other s.heap (Obj.mapSeq f) (Ne.symm hb)).trans hu) ⟨_,q⟩ ?_
 exact⟨hz,its',_,hv,q⟩
theorem Inv.ID {its:List Value}{t':Nat}(I:Inv X pins σ H s)(hv:Vals ys its)(hz:ys.length<=sizeLine) :
  Inv X pins σ (upd H s.heap.objs.size (.lst ys)) { s with heap:=s.heap.push { cls:=.type "list",data:=.seq its.toArray },toks:=t' }:=
 I.laid (λ _ _ q=>Heap.get?_push_of_some _ q) (Nat.le_refl _) ⟨hz,its,0,hv,Heap.get?_push_size _ rfl⟩
theorem Inv.fresh (I:Inv X pins σ H s):H s.heap.objs.size=none:=I.aQ.fresh (Nat.le_refl _)
theorem Inv.sT (I:Inv X pins σ H s)(hH:H l=some (.lst xs)):xs.length<=sizeLine/\∃ (its:List Value) (n:Nat),Vals xs its/\xs.length=its.length/\s.heap.get? l=some { cls:=.type "list",data:=.seq its.toArray n }:=by
 obtain⟨z,its,n,r,e⟩:=I.aQ l _ hH
 exact⟨z,its,n,r,r.length,e⟩
theorem AA {n:Nat}(h:n<=sizeLine):Builtin.List.listTooLong n=false:=by
 unfold Builtin.List.listTooLong
 exact decide_eq_false (by omega)
end
section
variable {X:Cx}
def Ds:V->List V->Hp->VK->Prop:=λ x vs H Q=>∃ l xs y,x=.ref l/\vs=[y]/\H l=some (.lst xs)/\xs.length < sizeLine/\Q .az (upd H l (.lst (xs++[y])))
theorem rh:Nb X "list.append" Ds:=by
 intro pins s σ H x vs v us Q I rx rv h
 obtain⟨l,xs,y,rfl,rfl,hH,hz,q⟩:=h
 cases rx
 obtain⟨u,rfl,ru⟩:=rv.one
 obtain⟨z,its,n,r,hl,e⟩:=I.sT hH
 refine call_meets F.slot_list_append ⟨_,e,rfl⟩ F.entry_list_append (F.args_list_append_2 _ _) (PySem.list_append l its.toArray n u (by rw[List.size_toArray];omega)) ⟨e,?_⟩
 refine⟨.az,_,I.Ba (its':=its++[u]) hH e (by simp) (r.append (.cons ru .nil)) ?_,rfl,q⟩
 rw[List.length_append,List.length_singleton]
 omega
def Dq:V->List V->Hp->VK->Prop:=λ x vs H Q=>∃ l b xs zs,x=.ref l/\vs=[.ref b]/\H l=some (.lst xs)/\H b=some (.lst zs)/\xs.length+zs.length<=sizeLine/\Q .az (upd H l (.lst (xs++zs)))
theorem JE:Nb X "list.extend" Dq:=by
 intro pins s σ H x vs v us Q I rx rv h
 obtain⟨l,b,xs,zs,rfl,rfl,hH,hB,hz,q⟩:=h
 cases rx
 obtain⟨u,rfl,ru⟩:=rv.one
 cases ru
 obtain⟨z,its,n,r,hl,e⟩:=I.sT hH
 obtain⟨z2,df,n2,r2,sZ,e2⟩:=I.sT hB
 have hsz:its.toArray.size+df.toArray.size<=sizeLine:=by rw[List.size_toArray,List.size_toArray];omega
 have LQ:¬ (!its.toArray.isEmpty && Builtin.List.listTooLong (its.toArray.size+df.toArray.size))=true:=by
  rw[AA hsz,Bool.and_false]
  exact Bool.false_ne_true
 refine call_meets F.slot_list_extend ⟨_,e,rfl⟩ F.entry_list_extend (F.args_list_extend_2 _ _)
  (AutoSeq1.list_extend_list_list_0 l its.toArray n b df.toArray n2 LQ (by rw[List.size_toArray];omega) (by omega)) ⟨e,e2,?_⟩
 refine⟨.az,_,I.Ba (its':=its++df) hH e (by simp) (r.append r2) ?_,rfl,q⟩
 rw[List.length_append]
 omega
def Oz:V->List V->Hp->VK->Prop:=λ x vs H Q=>∃ l xs y,x=.ref l/\vs=[]/\H l=some (.lst xs)/\xs[xs.length - 1]? = some y/\Q y (upd H l (.lst xs.dropLast))
theorem O0:Nb X "list.pop" Oz:=by
 intro pins s σ H x vs v us Q I rx rv h
 obtain⟨l,xs,y,rfl,rfl,hH,hy,q⟩:=h
 cases rx
 have Pl:=rv.zero
 subst Pl
 obtain⟨z,its,n,r,hl,e⟩:=I.sT hH
 obtain⟨u,hu,ru⟩:=r.get hy
 have Ph:its.toArray[its.toArray.size - 1]? = some u:=by
  show its.toArray[its.length - 1]? = some u
  rw[<-Array.getElem?_toList,<-hl]
  exact hu
 refine call_meets F.slot_list_pop ⟨_,e,rfl⟩ F.entry_list_pop (F.args_list_pop_1 _) (MeetsSeq.list_pop_last l its.toArray n u Ph (by rw[List.size_toArray];omega)) ⟨e,?_⟩
 refine⟨y,_,I.Ba (its':=its.dropLast) hH e ?_ r.dropLast ?_,ru,q⟩
 ·show its.toArray.eraseIdxIfInBounds (its.toArray.size - 1)=its.dropLast.toArray
  rw[List.size_toArray,List.eraseIdxIfInBounds_toArray,v_]
 ·rw[List.length_dropLast]
  omega
def G6:V->List V->Hp->VK->Prop:=λ x vs H Q=>∃ l xs i k y,x=.ref l/\vs=[.int i]/\H l=some (.lst xs)/\-(2 ^ 63)<=i/\i < 2 ^ 63/\seqIndex? i xs.length=some k/\xs[k]? = some y/\Q y (upd H l (.lst (xs.eraseIdx k)))
theorem AM:Nb X "list.pop" G6:=by
 intro pins s σ H x vs v us Q I rx rv h
 obtain⟨l,xs,i,k,y,rfl,rfl,hH,h1,h2,hk,hy,q⟩:=h
 cases rx
 obtain⟨u,rfl,ru⟩:=rv.one
 obtain⟨t,rfl⟩:=ru
 obtain⟨z,its,n,r,hl,e⟩:=I.sT hH
 obtain⟨w,hw,sA⟩:=r.get hy
 refine call_meets F.slot_list_pop ⟨_,e,rfl⟩ F.entry_list_pop (F.args_list_pop_2 _ _)
  (MeetsSeq.list_pop_at l its.toArray n i t k w (fitsIndex_both h1 h2) (by rw[List.size_toArray,<-hl];exact hk) (by rw[<-Array.getElem?_toList];exact hw) (by rw[List.size_toArray];omega)) ⟨e,?_⟩
 refine⟨y,_,I.Ba (its':=its.eraseIdx k) hH e ?_ (r.eraseIdx k) ?_,sA,q⟩
 ·show its.toArray.eraseIdxIfInBounds k=(its.eraseIdx k).toArray
  rw[List.eraseIdxIfInBounds_toArray]
 ·have:=rq xs k
  omega
def zP:V->List V->Hp->VK->Prop:=λ x vs H Q=>∃ l xs,x=.ref l/\vs=[]/\H l=some (.lst xs)/\Q .az (upd H l (.lst xs.reverse))
theorem vN:Nb X "list.reverse" zP:=by
 intro pins s σ H x vs v us Q I rx rv h
 obtain⟨l,xs,rfl,rfl,hH,q⟩:=h
 cases rx
 have Pl:=rv.zero
 subst Pl
 obtain⟨z,its,n,r,hl,e⟩:=I.sT hH
 refine call_meets F.slot_list_reverse ⟨_,e,rfl⟩ F.entry_list_reverse (F.args_list_reverse_1 _) (AutoSeq1.list_reverse_list_0 l its.toArray n (by rw[List.size_toArray];omega)) ⟨e,?_⟩
 refine⟨.az,_,I.Ba (its':=its.reverse) hH e (by simp) r.reverse ?_,rfl,q⟩
 rw[List.length_reverse]
 omega
def OF:R2:=λ x y H Q=>∃ l b xs zs,x=.ref l/\y=.ref b/\H l=some (.lst xs)/\H b=some (.lst zs)/\xs.length+zs.length<=sizeLine/\∀ p,H p=none->Q (.ref p) (upd H p (.lst (xs++zs)))
theorem HC:hU X (binaryOp .Add) OF:=by
 intro pins s σ H x y v u Q I rx ry h
 obtain⟨l,b,xs,zs,rfl,rfl,hH,hB,hz,q⟩:=h
 cases rx
 cases ry
 obtain⟨z,its,n,r,hl,e⟩:=I.sT hH
 obtain⟨z2,df,n2,r2,sZ,e2⟩:=I.sT hB
 refine PySem.P.add_list e e2 ?_ (by rw[List.size_toArray,List.size_toArray];omega)
 have ea:its.toArray++df.toArray=(its++df).toArray:=by simp
 rw[ea]
 exact⟨.ref _,_,I.ID (t':=s.toks) (r.append r2) (by rw[List.length_append];omega),rfl,q _ I.fresh⟩
end
section
variable {prog:Program}{w:World}{A:Around}{E:Value->Shared->Prop}{s:Shared}
end
section
variable {X:Cx}
end
end L2
namespace L2
open PySem PySem.Spec PyProof.Rows
section
variable {κ:Type} [DecidableEq κ]
def gR (kvs:List (κ × V)) (k:κ):Option V:=(kvs.find? λ kv=>decide (kv.1=k)).map (·.2)
def putK (kvs:List (κ × V)) (k:κ)(v:V):List (κ × V):=
 if (kvs.any λ kv=>decide (kv.1=k))=true then kvs.map (λ kv=>if kv.1=k then (kv.1,v) else kv) else kvs++[(k,v)]
theorem jK {p:κ × V}{r:List (κ × V)}{k:κ}(e:p.1=k):gR (p :: r) k=some p.2:=by simp[gR,List.find?_cons,e]
theorem jL {p:κ × V}{r:List (κ × V)}{k:κ}(e:¬ p.1=k):gR (p :: r) k=gR r k:=by simp[gR,List.find?_cons,e]
theorem uf (k:κ):∀ kvs:List (κ × V),(kvs.any λ kv=>decide (kv.1=k))=(gR kvs k).isSome
 | []=>rfl
 | p :: r=>by
  rw[List.any_cons]
  by_cases e:p.1=k
  ·simp only[jK e,decide_eq_true e,Bool.true_or,Option.isSome_some]
  ·rw[jL e,decide_eq_false e,Bool.false_or];exact uf k r
theorem jY (kvs:List (κ × V)) (k:κ)(v:V):(putK kvs k v).length<=kvs.length+1:=by
 unfold putK
 split
 ·rw[List.length_map];omega
 ·rw[List.length_append,List.length_cons,List.length_nil];omega
theorem jF.iZ {o:Option V}{u:Option Value}(r:jF o u):o.isSome=u.isSome:=by
 cases o with
 | none=>cases u with
  | none=>rfl
  | some _=>exact(show False from r).elim
 | some _=>cases u with
  | none=>exact(show False from r).elim
  | some _=>rfl
theorem jF.getD {o:Option V}{u:Option Value}{d:V}{d':Value}(r:jF o u)(rd:RelV d d'):RelV (o.getD d) (u.getD d'):=by
 cases o with
 | none=>cases u with
  | none=>exact rd
  | some _=>exact(show False from r).elim
 | some _=>cases u with
  | none=>exact(show False from r).elim
  | some _=>exact r
theorem KV.val {kvs:List (κ × V)}{vs:List (κ × Value)}(r:KV kvs vs)(k:κ):jF (gR kvs k) (valueAt vs k):=by
 unfold KV at r
 induction r with
 | nil=>exact True.intro
 | @cons p q ps qs h t ih=>
  obtain⟨h1,h2⟩:=h
  by_cases e:p.1=k
  ·have e':q.1=k:=h1.symm.trans e
   have b:valueAt (q :: qs) k=some q.2:=by simp[valueAt,List.find?_cons,e']
   rw[jK e,b];exact h2
  ·have e':¬ q.1=k:=λ z=>e (h1.trans z)
   have b:valueAt (q :: qs) k=valueAt qs k:=by simp[valueAt,List.find?_cons,e']
   rw[jL e,b];exact ih
theorem KV.any {kvs:List (κ × V)}{vs:List (κ × Value)}(r:KV kvs vs)(k:κ):(kvs.any λ kv=>decide (kv.1=k))=vs.any λ kv=>decide (kv.1=k):=by
 unfold KV at r
 induction r with
 | nil=>rfl
 | cons h t ih=>rw[List.any_cons,List.any_cons,ih,h.1]
theorem KV.G2 {kvs:List (κ × V)}{vs:List (κ × Value)}(r:KV kvs vs)(k:κ){y:V}{u:Value}(ry:RelV y u) :
  KV (kvs.map λ kv=>if kv.1=k then (kv.1,y) else kv) (vs.map λ kv=>if kv.1=k then (kv.1,u) else kv):=by
 unfold KV at r ⊢
 induction r with
 | nil=>exact .nil
 | @cons p q ps qs h t ih=>
  rw[List.map_cons,List.map_cons]
  refine .cons ?_ ih
  obtain⟨h1,h2⟩:=h
  by_cases e:p.1=k
  ·rw[if_pos e,if_pos (h1.symm.trans e)];exact⟨h1,ry⟩
  ·rw[if_neg e,if_neg (λ z=>e (h1.trans z))];exact⟨h1,h2⟩
theorem KV.put {kvs:List (κ × V)}{vs:List (κ × Value)}(r:KV kvs vs)(k:κ){y:V}{u:Value}(ry:RelV y u):KV (putK kvs k y) (stored vs k u):=by
 unfold putK stored
 rw[r.any k]
 by_cases e:(vs.any λ kv=>decide (kv.1=k))=true
 ·rw[if_pos e,if_pos e];exact r.G2 k ry
 ·rw[if_neg e,if_neg e];exact Paired.snoc r ⟨rfl,ry⟩
theorem KV.length {kvs:List (κ × V)}{vs:List (κ × Value)}(r:KV kvs vs):kvs.length=vs.length:=Paired.length r
end
theorem nZ {P:Program}{w:World}{k:Key}{u:Value}(r:RelV (kV k) u):(bw P w).is k u=true:=by
 cases k with
 | inl i=>obtain⟨t,e⟩:=(show ∃ t,u=Value.int i t from r);subst e;exact uF P w i t
 | inr x=>obtain⟨t,e⟩:=(show ∃ t,u=Value.str x t from r);subst e;exact uE P w x t
theorem rH {P:Program}{w:World}:∀ {ks:List Key}{us:List Value},Vals (ks.map kV) us->ItemsAre (bw P w) ks us
 | [],_,r=>by rw[List.map_nil]at r;cases r;exact .nil
 | k :: ks,_,r=>by
  rw[List.map_cons]at r
  cases r with
  | cons h t=>exact .cons (nZ h) (rH t)
abbrev KT (H:Hp):List (List Key × V)->List (List Key × Addr × Value)->Prop:=Paired λ p q=>p.1=q.1/\H q.2.1=some (.tup (p.1.map kV))/\RelV p.2 q.2.2
theorem KT.val {H:Hp}{kvs:List (List Key × V)}{xs:List (List Key × Addr × Value)}(r:KT H kvs xs)(k:List Key):jF (gR kvs k) ((atKey xs k).map (·.2)):=by
 induction r with
 | nil=>exact True.intro
 | @cons p q ps qs h t ih=>
  obtain⟨h1,_,h2⟩:=h
  by_cases e:p.1=k
  ·have e':q.1=k:=h1.symm.trans e
   have b:atKey (q :: qs) k=some q.2:=by simp[atKey,List.find?_cons,e']
   rw[jK e,b];exact h2
  ·have e':¬ q.1=k:=λ z=>e (h1.trans z)
   have b:atKey (q :: qs) k=atKey qs k:=by simp[atKey,List.find?_cons,e']
   rw[jL e,b];exact ih
theorem KT.G2 {H:Hp}{kvs:List (List Key × V)}{xs:List (List Key × Addr × Value)}(r:KT H kvs xs)(k:List Key){y:V}{u:Value}(ry:RelV y u) :
  KT H (kvs.map λ kv=>if kv.1=k then (kv.1,y) else kv) (xs.map (putAt k u)):=by
 induction r with
 | nil=>exact .nil
 | @cons p q ps qs h t ih=>
  rw[List.map_cons,List.map_cons]
  refine .cons ?_ ih
  obtain⟨h1,h2,h3⟩:=h
  unfold putAt
  by_cases e:p.1=k
  ·rw[if_pos e,if_pos (h1.symm.trans e)];exact⟨h1,h2,ry⟩
  ·rw[if_neg e,if_neg (λ z=>e (h1.trans z))];exact⟨h1,h2,h3⟩
theorem KT.put {H:Hp}{kvs:List (List Key × V)}{xs:List (List Key × Addr × Value)}(r:KT H kvs xs)(k:List Key){b:Addr}{y:V}{u:Value}(hb:H b=some (.tup (k.map kV))) (ry:RelV y u) :
  KT H (putK kvs k y) (storedH xs k b u):=by
 have e:(kvs.any λ kv=>decide (kv.1=k))=(atKey xs k).isSome:=by
  rw[uf,(r.val k).iZ,Option.isSome_map]
 unfold putK storedH
 rw[e]
 by_cases q:(atKey xs k).isSome=true
 ·rw[if_pos q,if_pos q];exact r.G2 k ry
 ·rw[if_neg q,if_neg q];exact Paired.snoc r ⟨rfl,hb,ry⟩
theorem KT.keeps {H H':Hp}{kvs:List (List Key × V)}{xs:List (List Key × Addr × Value)}(r:KT H kvs xs)(ht:∀ b ys,H b=some (.tup ys)->H' b=some (.tup ys)):KT H' kvs xs:=
 Paired.IA r λ _ _ z=>⟨z.1,ht _ _ z.2.1,z.2.2⟩
section
variable {P:Program}{w:World}{H:Hp}{h:Heap}{a:Addr}
theorem FO {u:HO}(ok:jG P w H h)(e:Rd H a u):bQ P w H h a u:=e.ok ok
theorem n9 {kvs:List (Key × V)}(ok:jG P w H h)(e:Rd H a (.dK kvs)):kvs.length<=sizeLine/\(a == sysModules)=false/\∃ vs,KV kvs vs/\h.DictOf (bw P w) a vs:=
 show bQ P w H h a (.dK kvs) from FO ok e
theorem uX {kvs:List (Key × V)}(ok:jG P w H h)(e:H a=some (.dK kvs)):kvs.length<=sizeLine/\(a == sysModules)=false/\∃ vs,KV kvs vs/\h.DictOf (bw P w) a vs:=n9 ok (.inl e)
theorem lI {ks:List Key}(ok:jG P w H h)(e:H a=some (.tup (ks.map kV))):(tupleKind (bw P w)).is h ks a:=by
 obtain⟨_,its,r,o,h1,h2,n,h3⟩:=(show bQ P w H h a (.tup (ks.map kV)) from ok a _ e)
 exact⟨o,its.toArray,n,h1,h2,h3,by simpa using rH r⟩
theorem n8 {kvs:List (List Key × V)}(ok:jG P w H h)(e:Rd H a (.dT kvs)):kvs.length<=sizeLine/\(a == sysModules)=false/\
  ∃ xs,KT H kvs xs/\h.DictOfH (tupleKind (bw P w)) a xs:=by
 obtain⟨z,y,xs,r,o,es,ep,h1,h2,h3,h4,h5⟩:=(show bQ P w H h a (.dT kvs) from FO ok e)
 refine⟨z,y,xs,r,o,es,ep,h1,h2,h3,h4,λ x hx=>?_,h5⟩
 have all:∀ {l:List (List Key × V)}{m:List (List Key × Addr × Value)},KT H l m->∀ x∈m,(tupleKind (bw P w)).is h x.1 x.2.1:=by
  intro l m q
  induction q with
  | nil=>intro x hx;exact nomatch hx
  | @cons p q ps qs hq t ih=>
   intro x hx
   rcases List.mem_cons.mp hx with e|hx
   ·subst e
    exact lI ok (by rw[<-hq.1];exact hq.2.1)
   ·exact ih x hx
 exact all r x hx
theorem Mq {kvs:List (List Key × V)}(ok:jG P w H h)(e:H a=some (.dT kvs)):kvs.length<=sizeLine/\(a == sysModules)=false/\
  ∃ xs,KT H kvs xs/\h.DictOfH (tupleKind (bw P w)) a xs:=n8 ok (.inl e)
end
def jz (H:Hp)(a:Addr)(y:V)(r:Option V):Prop:=
 (∃ kvs k,Rd H a (.dK kvs)/\y=kV k/\r=gR kvs k)∨∃ kvs k b,Rd H a (.dT kvs)/\y=.ref b/\H b=some (.tup (k.map kV))/\r=gR kvs k
def wx (H:Hp)(a:Addr)(y v:V)(H':Hp):Prop:=
 (∃ kvs k,H a=some (.dK kvs)/\y=kV k/\kvs.length < sizeLine/\H'=upd H a (.dK (putK kvs k v)))∨
 ∃ kvs k b,H a=some (.dT kvs)/\y=.ref b/\H b=some (.tup (k.map kV))/\kvs.length < sizeLine/\H'=upd H a (.dT (putK kvs k v))
theorem jz.k {H:Hp}{a:Addr}{kvs:List (Key × V)}{k:Key}(e:H a=some (.dK kvs)):jz H a (kV k) (gR kvs k):=.inl ⟨kvs,k,.inl e,rfl,rfl⟩
theorem wx.k {H:Hp}{a:Addr}{kvs:List (Key × V)}{k:Key}{v:V}(e:H a=some (.dK kvs)) (hl:kvs.length < sizeLine):wx H a (kV k) v (upd H a (.dK (putK kvs k v))):=.inl ⟨kvs,k,e,rfl,hl,rfl⟩
section
variable {X:Cx}{pins:List (Addr × Obj)}{σ:St}{H:Hp}{s:Shared}{a:Addr}{y v:V}{u r:Value}{o:Option V}{A:Around}{E:Value->Shared->Prop}
theorem Inv.big (I:Inv X pins σ H s):sysModules < s.heap.objs.size:=by
 have h:mainGlobals < s.heap.objs.size:=(I.mod.glob.keeps I.bk).lt
 exact Nat.lt_trans (by decide) h
theorem yF {Q:Value->Shared->Prop}(hu:A.units+1 < cLine)(I:Inv X pins σ H s)(g:jz H a y (some v)) (ry:RelV y u)(h:∀ w' s',Inv X pins σ H s'->RelV v w'->Q w' s') :
  wpAny (model X.prog X.w) A (getItem (.ref a) u) Q E s:=by
 rcases g with⟨kvs,k,e,ey,l⟩|⟨kvs,k,b,e,ey,eb,l⟩
 ·subst ey
  obtain⟨z,hd,vs,rel,dd⟩:=n9 I.aQ e
  obtain⟨w',hw,sA⟩:=jF.some_of (v:=v) (o:=valueAt vs k) (by rw[l];exact rel.val k)
  exact wpAny_getItem_of (nZ ry) dd.mapOf hw (h w' _ (I.tok _) sA)
 ·subst ey
  cases (show u=Value.ref b from ry)
  obtain⟨z,hd,xs,rel,dd⟩:=n8 I.aQ e
  obtain⟨w',hw,sA⟩:=jF.some_of (v:=v) (o:=(atKey xs k).map (·.2)) (by rw[l];exact rel.val k)
  obtain⟨p,hp,Sf⟩:=Option.map_eq_some_iff.mp hw
  refine wpAny_getItem_heap (tupleKind_room_in1 hu) (lI I.aQ eb) dd hp ?_
  rw[Sf]
  exact h w' _ (I.tok _) sA
theorem Mu {Q:Value->Shared->Prop}(hu:A.units+1 < cLine)(I:Inv X pins σ H s)(g:jz H a y o)(ry:RelV y u)(h:∀ s',Inv X pins σ H s'->Q (.bool o.isSome) s') :
  wpAny (model X.prog X.w) A (compareOp .In u (.ref a)) Q E s:=by
 rcases g with⟨kvs,k,e,ey,l⟩|⟨kvs,k,b,e,ey,eb,l⟩
 ·subst ey
  obtain⟨z,hd,vs,rel,dd⟩:=n9 I.aQ e
  refine wpAny_in_of (nZ ry) hd dd.mapOf ?_
  rw[<-(rel.val k).iZ,<-l]
  exact h _ (I.tok _)
 ·subst ey
  cases (show u=Value.ref b from ry)
  obtain⟨z,hd,xs,rel,dd⟩:=n8 I.aQ e
  refine wpAny_in_heap (tupleKind_room_in1 hu) (lI I.aQ eb) hd dd ?_
  have q:=(rel.val k).iZ
  rw[Option.isSome_map]at q
  rw[<-q,<-l]
  exact h _ (I.tok _)
theorem Fo {Q:Value->Shared->Prop}(hu:A.units+1 < cLine)(I:Inv X pins σ H s)(g:jz H a y o)(ry:RelV y u)(h:∀ s',Inv X pins σ H s'->Q (.bool (!o.isSome)) s') :
  wpAny (model X.prog X.w) A (compareOp .NotIn u (.ref a)) Q E s:=by
 rcases g with⟨kvs,k,e,ey,l⟩|⟨kvs,k,b,e,ey,eb,l⟩
 ·subst ey
  obtain⟨z,hd,vs,rel,dd⟩:=n9 I.aQ e
  refine wpAny_notIn_of (nZ ry) hd dd.mapOf ?_
  rw[<-(rel.val k).iZ,<-l]
  exact h _ (I.tok _)
 ·subst ey
  cases (show u=Value.ref b from ry)
  obtain⟨z,hd,xs,rel,dd⟩:=n8 I.aQ e
  refine wpAny_notIn_heap (tupleKind_room_in1 hu) (lI I.aQ eb) hd dd ?_
  have q:=(rel.val k).iZ
  rw[Option.isSome_map]at q
  rw[<-q,<-l]
  exact h _ (I.tok _)
theorem tH {h':Heap}{t':Nat}{ob:HO}(I:Inv X pins σ H s)(mu:JS (H a)) (hs:Heap.SameBut a s.heap h')(he:∃ q,h'.get? a=some q)(new:bQ X.prog X.w (upd H a ob) h' a ob) :
  Inv X pins σ (upd H a ob) { s with heap:=h',toks:=t' }:=
 I.write (x:=a) (e:=a) mu (.inl rfl) (λ b q hb z=>(hs.2 b hb).trans z) he new
theorem B1 {P:Program}{w:World}{H':Hp}{h':Heap}{kvs:List (Key × V)}{vs:List (Key × Value)}(z:kvs.length<=sizeLine)(hd:(a == sysModules)=false) (rel:KV kvs vs)(dd:h'.DictOf (bw P w) a vs) :
  bQ P w H' h' a (.dK kvs):=⟨z,hd,vs,rel,dd⟩
theorem rT {H':Hp}{Q:Unit->Shared->Prop}(hu:A.units+1 < cLine)(I:Inv X pins σ H s)(g:wx H a y v H')(ry:RelV y u)(rv:RelV v r)(h:∀ s',Inv X pins σ H' s'->Q () s') :
  wpAny (model X.prog X.w) A (setItem (.ref a) u r) Q E s:=by
 rcases g with⟨kvs,k,e,ey,l,eH⟩|⟨kvs,k,b,e,ey,eb,l,eH⟩
 ·subst ey eH
  obtain⟨z,hd,vs,rel,dd⟩:=uX I.aQ e
  have hz:vs.length<=sizeLine:=by rw[<-rel.length];exact z
  have hl:(putK kvs k v).length<=sizeLine:=by have:=jY kvs k v;omega
  refine wpAny_setItem_pairs (hsz:=hz) (nZ ry) dd λ h' Jo hs=>h _ ?_
  have he:∃ q,h'.get? a=some q:=let ⟨q,_,_,hq,_⟩:=Jo;⟨q,hq⟩
  exact tH I (by rw[e];exact True.intro) hs he (B1 hl hd (rel.put k rv) Jo)
 ·subst ey eH
  cases (show u=Value.ref b from ry)
  obtain⟨z,hd,xs,rel,dd⟩:=Mq I.aQ e
  have hz:xs.length<=sizeLine:=by rw[<-Paired.length rel];exact z
  have hl:(putK kvs k v).length<=sizeLine:=by have:=jY kvs k v;omega
  refine wpAny_setItem_heap (hsz:=hz) (tupleKind_room_in1 hu) (lI I.aQ eb) dd λ h' Jo hs=>h _ ?_
  obtain⟨q,es,ep,hq,h2,h3,h4,_,h5⟩:=Jo
  refine tH I (by rw[e];exact True.intro) hs ⟨q,hq⟩ ⟨hl,hd,_,(rel.put k eb rv).keeps λ c ys ec=>?_,q,es,ep,hq,h2,h3,h4,h5⟩
  rw[ah (pQ ec e (λ z=>nomatch z))]
  exact ec
end
section
variable {X:Cx}{pins:List (Addr × Obj)}{σ:St}{H:Hp}{s:Shared}{a:Addr}{kvs:List (Key × V)}{k:Key}{u:Value}{A:Around}{E:Value->Shared->Prop}
end
def Jz (i:Expr):Prop:=∀ ov iv,subscripted i false ov iv=operate [ov,iv] (getItem ov iv)
theorem C5 {prog:Program}{w:World}{A:Around}{E:Value->Shared->Prop}{s:Shared}{env:Env}{value slice:Expr}{pos:Pos}{T id:String}{Q:Value->Shared->Prop}
  (hl:typeLookup (.type T) "__getitem__"=pure (some (.builtin id))) (hs:Jz slice)
  (h:wpAny (model prog w) A (eval value env) (λ o s₁=>wpAny (model prog w) A (eval slice env) (λ i s₂=>s₂.TypeIs o T/\wpAny (model prog w) A (getItem o i) Q E s₂) E s₁) E s) :
  wpAny (model prog w) A (eval (.Subscript value slice pos) env) Q E s:=by
 refine Subscript_ (wpAny_mono h (λ o s₁ h₁=>wpAny_mono h₁ (λ i s₂ h₂=>?_) λ _ _ x=>x) λ _ _ x=>x)
 obtain⟨hT,h₂⟩:=h₂
 unfold subscriptTail
 refine wpAny_bind ?_
 rw[getitemInPython_of_ne hT.not_modules]
 refine wpAny_bind (wpAny_specialOf hT hl ?_)
 have fin:wpAny (model prog w) A (subscripted slice false o i) (λ r s₃=>wpAny (model prog w) A (letTemporaryGo value o r >>= λ _=>pure r) Q E s₃) E s₂:=by
  rw[hs o i]
  exact wpAny_operating (wpAny_mono h₂ (λ r s₃ h₃=>wpAny_bind (wpAny_letTemporaryGo (wpAny_pure h₃))) λ _ _ x=>x)
 first
  | exact wpAny_pure (wpAny_bind fin)
  | exact wpAny_bind (wpAny_pure (wpAny_bind fin))
  | exact wpAny_bind fin
theorem uZ {X:Cx}{pins:List (Addr × Obj)}{σ:St}{H:Hp}{s:Shared}{a:Addr}{y:V}{o:Option V}(I:Inv X pins σ H s)(g:jz H a y o):s.TypeIs (.ref a) "dict":=by
 rcases g with⟨kvs,k,e,_,_⟩|⟨kvs,k,b,e,_,_,_⟩
 ·obtain⟨_,_,vs,_,dd⟩:=n9 I.aQ e
  exact dd.typeIs
 ·obtain⟨_,_,xs,_,dd⟩:=n8 I.aQ e
  exact dd.typeIs
def Kg (td ty:TE):TE:=λ σ H Q=>td σ H λ x H1=>ty σ H1 λ y H2=>∃ a v,x=.ref a/\jz H2 a y (some v)/\Q v H2
def Og (ty td:TE):TE:=λ σ H Q=>ty σ H λ y H1=>td σ H1 λ x H2=>∃ a o,x=.ref a/\jz H2 a y o/\Q (.bl o.isSome) H2
def C3 (ty td:TE):TE:=λ σ H Q=>ty σ H λ y H1=>td σ H1 λ x H2=>∃ a o,x=.ref a/\jz H2 a y o/\Q (.bl (!o.isSome)) H2
def Kl (td ty tv:TE):TS:=λ D σ H=>tv σ H λ v H1=>td σ H1 λ x H2=>ty σ H2 λ y H3=>∃ a H4,x=.ref a/\wx H3 a y v H4/\D.nx σ H4
section
variable {X:Cx}{o i e value:Expr}{pos pos' mV:Pos}{td ty tv:TE}
theorem DP (hu:X.A.units+1 < cLine)(ho:PE X o td)(hi:PE X i ty)(hs:Jz i):PE X (.Subscript o i pos) (Kg td ty):=by
 intro pins s σ H Q I h
 refine C5 PySem.F.slot_dict_getitem.lookup hs (bG (ho pins s σ H _ I h) λ u s1 ⟨x,H1,I1,rx,q1⟩=>bG (hi pins s1 σ H1 _ I1 q1) λ iv s2 ⟨y,H2,I2,ry,a,v,ex,g,q2⟩=>?_)
 subst ex
 obtain rfl:u=Value.ref a:=rx
 exact⟨uZ I2 g,yF hu I2 g ry λ w' s3 I3 sA=>⟨v,H2,I3,sA,q2⟩⟩
theorem Aq (hu:X.A.units+1 < cLine)(hi:PE X i ty)(ho:PE X o td):PC X .In i o (Og ty td):=by
 intro pins s σ H Q I h
 refine bG (hi pins s σ H _ I h) λ iv s1 ⟨y,H1,I1,ry,q1⟩=>bG (ho pins s1 σ H1 _ I1 q1) λ u s2 ⟨x,H2,I2,rx,a,ov,ex,g,q2⟩=>?_
 subst ex
 obtain rfl:u=Value.ref a:=rx
 exact Mu hu I2 g ry λ s3 I3=>⟨.bl ov.isSome,H2,I3,rfl,q2⟩
theorem yf (hu:X.A.units+1 < cLine)(hi:PE X i ty)(ho:PE X o td):PC X .NotIn i o (C3 ty td):=by
 intro pins s σ H Q I h
 refine bG (hi pins s σ H _ I h) λ iv s1 ⟨y,H1,I1,ry,q1⟩=>bG (ho pins s1 σ H1 _ I1 q1) λ u s2 ⟨x,H2,I2,rx,a,ov,ex,g,q2⟩=>?_
 subst ex
 obtain rfl:u=Value.ref a:=rx
 exact Fo hu I2 g ry λ s3 I3=>⟨.bl (!ov.isSome),H2,I3,rfl,q2⟩
theorem DA (hu:X.A.units+1 < cLine)(ho:PE X o td)(hi:PE X i ty)(hv:PE X value tv)(hs:swapsWith value (some (.Subscript o i pos')) pos.line X.env=pure false) :
  PS X (.Assign [.Subscript o i pos'] value pos) (Kl td ty tv):=by
 intro pins s σ H D I h
 refine wpAny_Assign_Subscript (bG (hv pins s σ H _ I h) λ r s1 ⟨v,H1,I1,rv,q1⟩=>bG (ho pins s1 σ H1 _ I1 q1) λ u s2 ⟨x,H2,I2,rx,q2⟩=>bG (hi pins s2 σ H2 _ I2 q2) λ iv s3 ⟨y,H3,I3,ry,a,H4,ex,g,q3⟩=>?_) hs
 subst ex
 obtain rfl:u=Value.ref a:=rx
 exact rT hu I3 g ry rv λ s4 I4=>⟨σ,H4,I4,q3⟩
end
theorem uY {P:Program}{w:World}{H:Hp}(h:Heap)(hb:sysModules < h.objs.size):bQ P w H (h.push { cls:=.type "dict",data:=.dict #[] }) h.objs.size (.dK []):=
 ⟨Nat.zero_le _,beq_eq_false_iff_ne.mpr (Ne.symm (Nat.ne_of_lt hb)),[],.nil,Heap.DictOf.new h⟩
def GJ:TE:=λ _ H Q=>∀ p,H p=none->Q (.ref p) (upd H p (.dK []))
section
variable {X:Cx}{pos:Pos}
theorem Ak:PE X (.Dict [] [] pos) GJ:=λ pins s σ H Q I h=>
 wpAny_Dict_empty ⟨.ref s.heap.objs.size,_,I.laid (a:=s.heap.objs.size) (o:=.dK []) (t':=s.toks) (λ _ _ q=>Heap.get?_push_of_some _ q) (Nat.le_refl _) (uY s.heap I.big),rfl,h _ (I.aQ.fresh (Nat.le_refl _))⟩
end
def sj:List (TE × TE)->St->Hp->(List (V × V)->Hp->Prop)->Prop
 | [],_,H,Q=>Q [] H
 | (tk,tv) :: r,σ,H,Q=>tk σ H λ x H1=>tv σ H1 λ y H2=>sj r σ H2 λ ps H3=>Q ((x,y) :: ps) H3
abbrev VV:List (V × V)->List (Value × Value)->Prop:=Paired λ p q=>RelV p.1 q.1/\RelV p.2 q.2
def Gu (X:Cx)(pos:Pos)(keys:List (Option Expr)) (values:List Expr)(C0:List (TE × TE)):Prop:=
 ∀ (pins:List (Addr × Obj)) (s:Shared) (σ:St) (H:Hp) (Q:List (V × V)->Hp->Prop),Inv X pins σ H s->sj C0 σ H Q->
  wpAny (model X.prog X.w) X.A (evalPairs (pairTrees keys values X.env pos)) (λ vs s'=>∃ ps H',Inv X pins σ H' s'/\VV ps vs/\Q ps H') X.xe s
theorem DB {X:Cx}{pos:Pos}:Gu X pos [] [] []:=λ pins s σ H Q I h=>pairTrees_nil_walk ⟨[],H,I,.nil,h⟩
theorem zZ {X:Cx}{pos:Pos}{k v:Expr}{ks:List (Option Expr)}{vs:List Expr}{tk tv:TE}{C0:List (TE × TE)}(hk:PE X k tk)(hv:PE X v tv)(hr:Gu X pos ks vs C0) :
  Gu X pos (some k :: ks) (v :: vs) ((tk,tv) :: C0):=λ pins s σ H Q I h=>
 pairTrees_cons_walk (bG (hk pins s σ H _ I h) λ u s1 ⟨x,H1,I1,rx,q1⟩=>bG (hv pins s1 σ H1 _ I1 q1) λ w2 s2 ⟨y,H2,I2,ry,q2⟩=>
  bG (hr pins s2 σ H2 _ I2 q2) λ ws s3 ⟨ps,H3,I3,rel,q3⟩=>⟨(x,y) :: ps,H3,I3,.cons ⟨rx,ry⟩ rel,q3⟩)
def fD (kvs more:List (Key × V)):List (Key × V):=more.foldl (λ acc kv=>putK acc kv.1 kv.2) kvs
theorem KV.merge:∀ {more:List (Key × V)}{rs:List (Key × Value)}{kvs:List (Key × V)}{vs:List (Key × Value)},KV more rs->KV kvs vs->KV (fD kvs more) (merged vs rs):=by
 intro more rs kvs vs r
 unfold KV at r
 induction r generalizing kvs vs with
 | nil=>intro q;exact q
 | @cons p q ps qs h t ih=>
  intro r0
  have e:KV (putK kvs p.1 p.2) (stored vs q.1 q.2):=by
   have:=r0.put p.1 h.2
   rw[<-h.1];exact this
  exact ih e
theorem kW:∀ (more kvs:List (Key × V)),(fD kvs more).length<=kvs.length+more.length
 | [],kvs=>by show kvs.length<=kvs.length+0;omega
 | p :: r,kvs=>by
  have h1:=kW r (putK kvs p.1 p.2)
  have h2:=jY kvs p.1 p.2
  show(fD (putK kvs p.1 p.2) r).length<=_
  rw[List.length_cons];omega
theorem qg {P:Program}{w:World}:∀ {kvs:List (Key × V)}{ws:List (Value × Value)},VV (kvs.map λ kv=>(kV kv.1,kv.2)) ws->∃ rs,Carries (bw P w) ws rs/\KV kvs rs
 | [],_,r=>by rw[List.map_nil]at r;cases r;exact⟨[],True.intro,.nil⟩
 | p :: kvs,_,r=>by
  rw[List.map_cons]at r
  cases r with
  | @cons a b as bs h t=>
   obtain⟨rs,c,q⟩:=qg (P:=P) (w:=w) t
   obtain⟨b1,b2⟩:=b
   exact⟨(p.1,b2) :: rs,⟨nZ h.1,rfl,c⟩,.cons ⟨rfl,h.2⟩ q⟩
def Kf (C0:List (TE × TE)):TE:=λ σ H Q=>∀ p,H p=none->sj C0 σ (upd H p (.dK [])) λ ps H2=>H2 p=some (.dK [])/\∃ kvs:List (Key × V),ps=kvs.map (λ kv=>(kV kv.1,kv.2))/\kvs.length<=15/\Q (.ref p) (upd H2 p (.dK (fD [] kvs)))
theorem DO {X:Cx}{pos:Pos}{keys:List (Option Expr)}{values:List Expr}{C0:List (TE × TE)}(h:Gu X pos keys values C0)(BA:keys.all (·.isSome)=true) (hl:keys.length=values.length)(h0:keys≠[])
  (JP:keys.length<=15):PE X (.Dict keys values pos) (Kf C0):=by
 intro pins s σ H Q I q
 have hn:=I.aQ.fresh (Nat.le_refl s.heap.objs.size)
 have I1:=I.laid (a:=s.heap.objs.size) (o:=.dK []) (h':=s.heap.push { cls:=.type "dict",data:=.dict #[] }) (t':=s.toks) (λ _ _ q=>Heap.get?_push_of_some _ q) (Nat.le_refl _) (uY s.heap I.big)
 refine wpAny_Dict_walk (knd:=bw X.prog X.w) BA hl h0 JP (bG (h pins _ σ _ _ I1 (q _ hn)) λ ws s2 ⟨ps,H2,I2,rel,e,kvs,ep,lk,q2⟩=>?_)
 subst ep
 obtain⟨rs,c,rk⟩:=qg (P:=X.prog) (w:=X.w) rel
 obtain⟨z,hd,N3,r0,dd⟩:=uX I2.aQ e
 cases r0
 refine⟨rs,c,dd,λ h' Jo hs=>⟨.ref s.heap.objs.size,_,?_,rfl,q2⟩⟩
 have hz:(fD [] kvs).length<=sizeLine:=by
  have h1:=kW kvs []
  rw[List.length_nil]at h1
  rw[sizeLine_eq];omega
 have he:∃ q,h'.get? s.heap.objs.size=some q:=let ⟨q,_,_,hq,_⟩:=Jo;⟨q,hq⟩
 exact tH I2 (by rw[e];exact True.intro) hs he (B1 hz hd (rk.merge .nil) Jo)
structure M1 (X:Cx)(o:Expr)(m:Str)(apos:Pos)(e:Expr)(br:Pos):Prop where
 base:attributeBase o m X.env (eval o X.env)=eval o X.env
 P9:((backTo br (starEach [e] X.env)).all (λ x=>!x.1) && (backToKw br (keywordEach [] X.env)).all (λ x=>x.1.isSome)
  && decide (([e]:List Expr).length+([]:List Keyword).length+(if ([]:List Keyword).isEmpty then 0 else 1) < 30))=true
 line:(apos.endLine == br.line)=true
 trees:backTo br (starEach [e] X.env)=[(false,eval e X.env)]
structure M2 (X:Cx)(o:Expr)(m:Str)(apos:Pos)(e f:Expr)(br:Pos):Prop where
 base:attributeBase o m X.env (eval o X.env)=eval o X.env
 P9:((backTo br (starEach [e,f] X.env)).all (λ x=>!x.1) && (backToKw br (keywordEach [] X.env)).all (λ x=>x.1.isSome)
  && decide (([e,f]:List Expr).length+([]:List Keyword).length+(if ([]:List Keyword).isEmpty then 0 else 1) < 30))=true
 line:(apos.endLine == br.line)=true
 trees:backTo br (starEach [e,f] X.env)=[(false,eval e X.env),(false,eval f X.env)]
def NX (H:Hp)(a:Addr):Prop:=(∃ kvs,Rd H a (.dK kvs))∨∃ kvs,Rd H a (.dT kvs)
theorem pY {X:Cx}{pins:List (Addr × Obj)}{σ:St}{H:Hp}{s:Shared}{a:Addr}(I:Inv X pins σ H s)(d:NX H a) :
  s.TypeIs (.ref a) "dict"/\(∀ b,Value.ref a=.ref b->∃ ob,s.heap.get? b=some ob/\ob.dict=none)/\(a == sysModules)=false:=by
 rcases d with⟨kvs,e⟩|⟨kvs,e⟩
 ·obtain⟨_,hd,vs,_,dd⟩:=n9 I.aQ e
  refine⟨dd.typeIs,λ b q=>?_,hd⟩
  cases q
  obtain⟨ob,_,_,h1,h2,_⟩:=dd
  exact⟨ob,h1,h2.2.1⟩
 ·obtain⟨_,hd,xs,_,dd⟩:=n8 I.aQ e
  refine⟨dd.typeIs,λ b q=>?_,hd⟩
  cases q
  obtain⟨ob,_,_,h1,h2,_⟩:=dd
  exact⟨ob,h1,h2.2.1⟩
section
variable {X:Cx}{pins:List (Addr × Obj)}{σ:St}{H:Hp}{s:Shared}{a:Addr}{y d:V}{u r:Value}{o:Option V}{A:Around}{E:Value->Shared->Prop}
theorem Jq {Q:Value->Shared->Prop}(hu:A.units+1 < cLine)(I:Inv X pins σ H s)(g:jz H a y o)(ry:RelV y u)(h:∀ w' s',Inv X pins σ H s'->RelV (o.getD .az) w'->Q w' s') :
  wpAny (model X.prog X.w) A (call (.builtin "dict.get") [.ref a,u]) Q E s:=by
 rcases g with⟨kvs,k,e,ey,l⟩|⟨kvs,k,b,e,ey,eb,l⟩
 ·subst ey
  obtain⟨z,hd,vs,rel,dd⟩:=n9 I.aQ e
  refine call_meetsIn PySem.F.slot_dict_get dd.typeIs PySem.F.entry_dict_get (PySem.F.args_dict_get_2 _ _) (meets_dict_get (bw X.prog X.w) a (nZ ry) hd) ⟨_,dd.mapOf,h _ _ (I.tok _) ?_⟩
  rw[l]
  exact(rel.val k).getD rfl
 ·subst ey
  cases (show u=Value.ref b from ry)
  obtain⟨z,hd,xs,rel,dd⟩:=n8 I.aQ e
  refine call_meetsIn PySem.F.slot_dict_get dd.typeIs PySem.F.entry_dict_get (PySem.F.args_dict_get_2 _ _) (meetsH_dict_get (tupleKind (bw X.prog X.w)) a b hd) ⟨tupleKind_room_in1 hu,k,xs,lI I.aQ eb,dd,h _ _ (I.tok _) ?_⟩
  rw[l]
  exact(rel.val k).getD rfl
theorem Jp {Q:Value->Shared->Prop}(hu:A.units+1 < cLine)(I:Inv X pins σ H s)(g:jz H a y o)(ry:RelV y u)(rd:RelV d r)(h:∀ w' s',Inv X pins σ H s'->RelV (o.getD d) w'->Q w' s') :
  wpAny (model X.prog X.w) A (call (.builtin "dict.get") [.ref a,u,r]) Q E s:=by
 rcases g with⟨kvs,k,e,ey,l⟩|⟨kvs,k,b,e,ey,eb,l⟩
 ·subst ey
  obtain⟨z,hd,vs,rel,dd⟩:=n9 I.aQ e
  refine call_meetsIn PySem.F.slot_dict_get dd.typeIs PySem.F.entry_dict_get (PySem.F.args_dict_get_3 _ _ _) (meets_dict_get_default (bw X.prog X.w) a (nZ ry) hd r) ⟨_,dd.mapOf,h _ _ (I.tok _) ?_⟩
  rw[l]
  exact(rel.val k).getD rd
 ·subst ey
  cases (show u=Value.ref b from ry)
  obtain⟨z,hd,xs,rel,dd⟩:=n8 I.aQ e
  refine call_meetsIn PySem.F.slot_dict_get dd.typeIs PySem.F.entry_dict_get (PySem.F.args_dict_get_3 _ _ _) (meetsH_dict_get_default (tupleKind (bw X.prog X.w)) a b hd r) ⟨tupleKind_room_in1 hu,k,xs,lI I.aQ eb,dd,h _ _ (I.tok _) ?_⟩
  rw[l]
  exact(rel.val k).getD rd
end
def GL (td ty:TE):TE:=λ σ H Q=>td σ H λ x H1=>∃ a,x=.ref a/\NX H1 a/\ty σ H1 λ y H2=>∃ o,jz H2 a y o/\Q (o.getD .az) H2
def GK (td ty tx:TE):TE:=λ σ H Q=>td σ H λ x H1=>∃ a,x=.ref a/\NX H1 a/\ty σ H1 λ y H2=>tx σ H2 λ z H3=>∃ o,jz H3 a y o/\Q (o.getD z) H3
section
variable {X:Cx}{o e f:Expr}{apos br:Pos}{td ty tx:TE}
theorem Am (hu:X.A.units+1 < cLine)(ho:PE X o td)(he:PE X e ty)(m:M1 X o "get" apos e br):PE X (.Call (.Attribute o "get" apos) [e] [] br) (GL td ty):=by
 intro pins s σ H Q I h
 refine wpAny_Call_method m.base m.P9 m.line PySem.F.plainAttrs_dict PySem.F.slot_dict_get PySem.F.type_dict_get (bG (ho pins s σ H _ I h) λ u s1 ⟨x,H1,I1,rx,a,ex,d,q1⟩=>?_)
 subst ex
 obtain rfl:u=Value.ref a:=rx
 obtain⟨t1,t2,_⟩:=pY I1 d
 refine⟨t1,t2,?_⟩
 rw[m.trees]
 refine Calls.callWith_builtin rfl (Calls.evalArgs_plain (Calls.spliced_cons (bG (he pins s1 σ H1 _ I1 q1) λ iv s2 ⟨y,H2,I2,ry,ov,g,q2⟩=>Calls.spliced_nil ?_)))
 exact Jq hu I2 g ry λ w' s3 I3 sA=>⟨_,H2,I3,sA,q2⟩
theorem Al (hu:X.A.units+1 < cLine)(ho:PE X o td)(he:PE X e ty)(hf:PE X f tx)(m:M2 X o "get" apos e f br):PE X (.Call (.Attribute o "get" apos) [e,f] [] br) (GK td ty tx):=by
 intro pins s σ H Q I h
 refine wpAny_Call_method m.base m.P9 m.line PySem.F.plainAttrs_dict PySem.F.slot_dict_get PySem.F.type_dict_get (bG (ho pins s σ H _ I h) λ u s1 ⟨x,H1,I1,rx,a,ex,d,q1⟩=>?_)
 subst ex
 obtain rfl:u=Value.ref a:=rx
 obtain⟨t1,t2,_⟩:=pY I1 d
 refine⟨t1,t2,?_⟩
 rw[m.trees]
 refine Calls.callWith_builtin rfl (Calls.evalArgs_plain (Calls.spliced_cons (bG (he pins s1 σ H1 _ I1 q1) λ iv s2 ⟨y,H2,I2,ry,q2⟩=>
  Calls.spliced_cons (bG (hf pins s2 σ H2 _ I2 q2) λ fv s3 ⟨z,H3,I3,rz,ov,g,q3⟩=>Calls.spliced_nil ?_))))
 exact Jp hu I3 g ry rz λ w' s4 I4 sA=>⟨_,H3,I4,sA,q3⟩
end
section
variable {X:Cx}{pins:List (Addr × Obj)}{σ:St}{H:Hp}{s:Shared}{a:Addr}{kvs:List (Key × V)}{A:Around}{E:Value->Shared->Prop}
end
section
variable {X:Cx}{pins:List (Addr × Obj)}{σ:St}{H:Hp}{s:Shared}{a:Addr}{y:V}{u:Value}{A:Around}{E:Value->Shared->Prop}
end
end L2
namespace Rn
open PySem PySem.W PySem.Calls PyProof.Rows
theorem oC {P:Params}{h:Heap}:∀ (ns:List Int) (vs:List Value),WellAll P h vs (ns.map WData.int)->IntsAre vs ns:=by
 intro ns
 induction ns with
 | nil=>
  intro vs w
  rw[List.map_nil]at w
  cases w
  exact .nil
 | cons n ns ih=>
  intro vs w
  rw[List.map_cons]at w
  cases w with
  | cons a b=>
   cases a
   exact .cons _ _ (ih _ b)
theorem x9 {l:OpenLaw}{n:Nat}(hn:l.most=some n){P:Params}{h:Heap}{args:List WData}{vals:List Value}
  (EX:l.row.toRowW.claim.pre args=true) (LJ:WellAll P h vals args) :
  ∃ a vs ns,vals=[Value.ref a]/\args=[WData.list (ns.map WData.int)]/\h.get? a=some { cls:=.type "list",data:=.seq vs.toArray }/\IntsAre vs ns/\ns.length<=n:=by
 have Sa:WShape.hasAll [] args [.list .int]=true:=(pre_splitW EX).1
 have hc:l.pre.holds [] { args:=args }=true:=(pre_splitW EX).2
 obtain⟨d,r,rfl,h1,h2⟩:=hasAllW_cons Sa
 obtain rfl:=hasAllW_nil h2
 obtain⟨xs,rfl,h3⟩:=hasW_list h1
 obtain⟨ns,rfl⟩:=items_int h3
 have hlen:ns.length<=n:=by
  unfold OpenLaw.pre at hc
  have h4:(WTm.not (.lt (.lit (.int (n:Int))) (.len (.arg 0)))).holds [] { args:=[.list (ns.map .int)] }=true:=by
   have h4:=(holds_andW hc).1
   rw[hn]at h4
   exact h4
  have h5:=condW_of h4 (w_not (w_lt w_lit (w_len_list (w_arg rfl))))
  rw[List.length_map]at h5
  refine Nat.le_of_not_lt λ q=>?_
  have q':(n:Int) < ((ns.length:Nat):Int):=by omega
  first
   | (rw[decide_eq_true q']at h5;exact absurd h5 (by decide))
   | (simp at h5;omega)
 cases LJ with
 | cons w1 w2=>
  cases w2
  cases w1 with
  | list ho BA=>exact⟨_,_,ns,rfl,rfl,ho,oC ns _ BA,hlen⟩
theorem yc (l:OpenLaw)(args:List WData):l.row.toRowW.claim.post args (.bool true) args=true:=
 postW_of (r:=l.row.toRowW) (X:=(true == true))
  (show WShape.has [] (.bool true) .bool=true by first|rfl|decide|simp[WShape.has,WShape.arms,WShape.armsAll])
  (show(WTm.eq .res (.lit (.bool true))).value [] { args:=args,res:=some (.bool true),after:=args }=some (.bool (true == true)) from w_eq_bool (w_res rfl) w_lit) rfl
theorem ve {l:OpenLaw}{n:Nat}{q:Program}{loose:List Str}{XP:(Str->Option Value)->Heap->Prop}{YP:World->Heap->Prop}{d:DefRec}
  (hn:l.most=some n) (LW:d.params.defaults=[])
  (call:∀ (w:World) (gS s₁:Shared) (mg mb:Str->Option Value) (fa:Addr) (o:Obj) (pm cd doc:Value) (a:Addr) (vs:List Value) (ns:List Int),
   Ground q loose [] XP w gS mg mb s₁.heap->YP w s₁.heap->
   s₁.heap.get? fa=some o->o.data=.func (docDef d.name d.params d.body d.scope pm cd doc)->s₁.heap.CodeRec cd d.name->mg d.name=some (.ref fa)->
   s₁.heap.get? a=some { cls:=.type "list",data:=.seq vs.toArray }->IntsAre vs ns->ns.length<=n->s₁.gens=#[]->
   codeAny (model l.prog w) callerA (.call (.ref fa) ⟨[.ref a],[]⟩) (λ r s'=>r=.ok (.ret (.bool true))/\OldK s₁.heap s'.heap/\s'.os=s₁.os/\AllBare s'.gens) s₁) :
  WalkO q loose XP YP l.row.toRowW d [] (λ f vs=>PySem.call f vs):=by
 intro w gS s₁ mg mb G Y fa o pm cd doc dV kV ho hd xj hD LP hg args vals as EX Sq TB LJ TL
 obtain rfl:dV=.none:=Dflts.none hD LW
 obtain rfl:kV=.none:=Dflts.noKw hD
 obtain⟨a,vs,ns,rfl,rfl,IX,hints,hlen⟩:=x9 hn EX LJ
 refine enter_call (codeAny_mono (call w gS s₁ mg mb fa o pm cd doc a vs ns G Y ho (fd_plain hd) xj LP IX hints hlen hg) λ r s' hq=>?_)
 obtain⟨rfl,h2,h3,h4⟩:=hq
 exact⟨.inl ⟨.bool true,.bool true,[],rfl,λ _=>rfl,.bool true,yc l _,λ _=>⟨List.Pairwise.nil,λ _ hm=>(nomatch hm)⟩⟩,h2,h3,h4⟩
section
variable {prog:Program}{w:World}{A:Around}{E:Value->Shared->Prop}{s:Shared}{K:Frag}
end
end Rn
namespace L2
open PySem PySem.Spec PyProof.Rows
theorem qM:∀ {vs:List Value}{ns:List Int},IntsAre vs ns->Vals (ns.map V.int) vs
 | _,_,.nil=>.nil
 | _,_,.cons n t h=>.cons ⟨t,rfl⟩ (qM h)
end L2
namespace L2
open PySem PySem.Spec PyProof.Rows
end L2
namespace L2
open PySem PySem.Spec PyProof.Rows
def inClass (s:Stmt)(j:Nat):Stmt:=match s with
 | .ClassDef _ _ _ body _ _ _ _ _ _ _=>body.getD j (.Pass ⟨0,0,0,0⟩)
 | _=>.Pass ⟨0,0,0,0⟩
def cO (s:Stmt):Arguments:=match s with
 | .FunctionDef _ a _ _ _ _ _ _ _ _=>a
 | _=>{ posonlyargs:=[],args:=[],vararg:=none,kwonlyargs:=[],kw_defaults:=[],kwarg:=none,defaults:=[] }
def bL (s:Stmt):List Stmt:=match s with
 | .FunctionDef _ _ b _ _ _ _ _ _ _=>b
 | _=>[]
def ax (s:Stmt):Scope:=match s with
 | .FunctionDef _ _ _ _ _ _ sc _ _ _=>sc
 | _=>{ kind:=.function,names:=[],isGenerator:=false,isCoroutine:=false }
abbrev E0:XK:=λ _ _ _=>False
structure Cu (K:PySem.W.Frag)(x qual:Str)(st:Stmt)(f:Addr)(fd:FuncData):Prop where
 ex:∃ (oc:Value) (od:Option Addr) (kV doc pm:Value) (an:Option Addr) (dD ct:Value) (qv:Array (Option Value)),
  fd=PySem.W.fnOf x qual (cO st) (bL st) (ax st) .none kV doc pm an dD ct/\K.lookup f=some ⟨oc,od,.func fd,qv⟩/\PySem.W.codeIn K dD qual=true
 kp:PySem.W.keepIn K (.ref f)=true
section
variable {P:Program}{w:World}{K:PySem.W.Frag}{mg:Str->Option Value}{base:Heap}
theorem Cu.binds {x qual:Str}{st:Stmt}{f:Addr}{fd:FuncData}{ps:List Str}(F:Cu K x qual st f fd)
  (h:∀ (kV doc pm:Value) (an:Option Addr) (dD ct:Value) (us:List Value),us.length=ps.length->bindArgs (PySem.W.fnOf x qual (cO st) (bL st) (ax st) .none kV doc pm an dD ct) ⟨us,[]⟩=pure (ps.zip us)):Binds K fd ps []:=by
 obtain⟨oc,od,kV,doc,pm,an,dD,ct,qv,rfl,lk,xj⟩:=F.ex
 exact .all (h kV doc pm an dD ct)
theorem tu {x qual:Str}{st:Stmt}{f:Addr}{oc:Value}{od an:Option Addr}{qv:Array (Option Value)}{kV doc pm dD ct:Value}(l:K.lookup f=some ⟨oc,od,.func (PySem.W.fnOf x qual (cO st) (bL st) (ax st) .none kV doc pm an dD ct),qv⟩)
  (c:PySem.W.codeIn K dD qual=true) (k:PySem.W.keepIn K (.ref f)=true):Cu K x qual st f (PySem.W.fnOf x qual (cO st) (bL st) (ax st) .none kV doc pm an dD ct):=⟨⟨oc,od,kV,doc,pm,an,dD,ct,qv,rfl,l,c⟩,k⟩
end
theorem FY {A:Around}{k:Nat}(hr:cX k A):A.units+1 < cLine:=Nat.lt_of_le_of_lt (Nat.add_le_add_left (by decide:1<=64) _) hr.units
theorem bZ {n:Nat}(h:n<=1000):n < sizeLine:=Nat.lt_of_le_of_lt h (by decide)
section
variable {X:Cx}
theorem pv (i:Nat){x:Str}{pos:Pos}(hN:X.N[i]? = some x:=by rfl)(hv:Qn X.env.scope x:=by first|exact Or.inl rfl|exact Or.inr (Or.inl rfl)|exact Or.inr (Or.inr rfl)) (hd:(x == ("__debug__":Str))=false:=by decide)
  (xj:(x == ("__classdict__":Str))=false:=by decide):PE X (.Name x pos) (GG i):=Hl hN hv hd xj
end
section
variable {κ:Type} [DecidableEq κ]
end
end L2
set_option maxHeartbeats 4000000
namespace L2
open PySem PySem.Spec PyProof.Rows
def jb (X:Cx)(scope:Scope):List (Str × Option Nat)->Prop
 | []=>True
 | (_,none) :: r=>jb X scope r
 | (x,some j) :: r=>(X.N[j]? = some x/\scope.names.lookup x=some .free/\(X.env.kindOf x=some .cell∨X.env.kindOf x=some .free))/\jb X scope r
def xU (l:List (Str × Option Nat)) (σ:St):St:=l.map λ p=>p.2.bind λ j=>(σ[j]?).join
theorem jb.get {X:Cx}{scope:Scope}:∀ {l:List (Str × Option Nat)},jb X scope l->∀ {i:Nat}{x:Str}{j:Nat},l[i]? = some (x,some j)->
  X.N[j]? = some x/\scope.names.lookup x=some .free/\(X.env.kindOf x=some .cell∨X.env.kindOf x=some .free)
 | [],_,i,x,j,e=>by simp at e
 | (y,none) :: r,h,0,x,j,e=>by simp at e
 | (y,none) :: r,h,i+1,x,j,e=>jb.get (l:=r) h (i:=i) (by simpa using e)
 | (y,some k) :: r,h,0,x,j,e=>by
  simp at e
  obtain⟨rfl,rfl⟩:=e
  exact h.1
 | (y,some k) :: r,h,i+1,x,j,e=>jb.get (l:=r) h.2 (i:=i) (by simpa using e)
theorem lS (env:Env):∀ (names:List (Str × NameKind)) (Gn:List (Str × Addr)),(∀ x∈names,x.2=.free->∃ c,env.cells.lookup x.1=some c)->
  ∃ cl,(forIn names Gn (λ(x:Str × NameKind) (cs:List (Str × Addr))=>(if x.2 == .free then do let a <-cellOf env x.1;pure (ForInStep.yield ((x.1,a) :: cs)) else pure (ForInStep.yield cs):Sem (ForInStep (List (Str × Addr))))))=pure cl/\
   (∀ y c,cl.lookup y=some c->env.cells.lookup y=some c∨Gn.lookup y=some c)/\(∀ x∈names,x.2=.free->∃ c,cl.lookup x.1=some c )/\(∀ y,(∃ c,Gn.lookup y=some c)->∃ c,cl.lookup y=some c)
 | [],Gn,h=>⟨Gn,rfl,λ _ _ e=>.inr e,λ _ hx=>(nomatch hx),λ _ e=>e⟩
 | (n,k) :: r,Gn,h=>by
  by_cases hk:k=.free
  ·subst hk
   obtain⟨c,ec⟩:=h (n,.free) List.mem_cons_self rfl
   obtain⟨cl,e1,e2,e3,e4⟩:=lS env r ((n,c) :: Gn) λ x hx=>h x (List.mem_cons_of_mem _ hx)
   have hc:cellOf env n=pure c:=by
    unfold cellOf
    have NO:env.cells.lookup n=some c:=ec
    rw[NO]
   have own:∃ c',cl.lookup n=some c':=e4 n ⟨c,by simp[List.lookup_cons]⟩
   refine⟨cl,?_,λ y d e=>?_,λ x hx hf=>?_,λ y ⟨d,e⟩=>?_⟩
   ·rw[List.forIn_cons]
    simp only[beq_self_eq_true,if_true,hc,pure_bind]
    exact e1
   ·rcases e2 y d e with z|z
    ·exact .inl z
    ·rw[List.lookup_cons]at z
     split at z
     ·rename_i hy
      have:y=n:=by simpa using hy
      subst this
      cases z
      exact .inl ec
     ·exact .inr z
   ·rcases List.mem_cons.mp hx with rfl|hx
    ·exact own
    ·exact e3 x hx hf
   ·refine e4 y ?_
    rw[List.lookup_cons]
    split
    ·exact⟨_,rfl⟩
    ·exact⟨d,e⟩
  ·obtain⟨cl,e1,e2,e3,e4⟩:=lS env r Gn λ x hx=>h x (List.mem_cons_of_mem _ hx)
   have hb:(k == NameKind.free)=false:=by simpa using hk
   refine⟨cl,?_,e2,λ x hx hf=>?_,e4⟩
   ·rw[List.forIn_cons]
    simp only[hb,Bool.false_eq_true,if_false,pure_bind]
    exact e1
   ·rcases List.mem_cons.mp hx with rfl|hx
    ·exact absurd hf hk
    ·exact e3 x hx hf
theorem k_ {scope:Scope}{env:Env}(h:∀ x∈scope.names,x.2=.free->∃ c,env.cells.lookup x.1=some c) :
  ∃ cl,closureFor scope env=pure cl/\(∀ y c,cl.lookup y=some c->env.cells.lookup y=some c)/\∀ x∈scope.names,x.2=.free->∃ c,cl.lookup x.1=some c:=by
 obtain⟨cl,e1,e2,e3,_⟩:=lS env scope.names [] h
 refine⟨cl,?_,λ y c e=>(e2 y c e).elim id λ z=>by simp at z,e3⟩
 unfold closureFor
 have CL:=e1
 simp only[bind_pure_comp]at CL ⊢
 first
  | (rw[CL];rfl)
  | (simp only[CL];rfl)
  | (simpa using CL)
theorem gB {env:Env}:∀ {names:List (Str × NameKind)}{x:Str},names.lookup x=some .free->
    ((names.map λ(n,k)=>if (k == NameKind.free && env.scope.kind == .function && env.kindOf n == some .cell) then (n,NameKind.cell) else (n,k)).lookup x=some .cell∨
     (names.map λ(n,k)=>if (k == NameKind.free && env.scope.kind == .function && env.kindOf n == some .cell) then (n,NameKind.cell) else (n,k)).lookup x=some .free)
  | [],_,h=>by simp at h
  | (n,k) :: r,x,h=>by
    have ih:=@gB env r x
    show List.lookup x ((if (k == NameKind.free && env.scope.kind == .function && env.kindOf n == some .cell)=true then (n,NameKind.cell) else (n,k)) :: _)=_∨List.lookup x ((if (k == NameKind.free && env.scope.kind == .function && env.kindOf n == some .cell)=true then (n,NameKind.cell) else (n,k)) :: _)=_
    cases hx:x == n with
    | true=>
      simp only[List.lookup_cons,hx]at h
      cases h
      by_cases hc:(NameKind.free == NameKind.free && env.scope.kind == .function && env.kindOf n == some .cell)=true
      · rw[if_pos hc];left;simp[List.lookup_cons,hx]
      · rw[if_neg hc];right;simp[List.lookup_cons,hx]
    | false=>
      simp only[List.lookup_cons,hx]at h
      by_cases hc:(k == NameKind.free && env.scope.kind == .function && env.kindOf n == some .cell)=true
      · rw[if_pos hc];simp only[List.lookup_cons,hx];exact ih h
      · rw[if_neg hc];simp only[List.lookup_cons,hx];exact ih h
theorem l8 {env:Env}{x:Str}:∀ {names:List (Str × NameKind)},
    ((names.map λ(n,k)=>if (k == NameKind.free && env.scope.kind == .function && env.kindOf n == some .cell) then (n,NameKind.cell) else (n,k)).lookup x=some .cell∨
     (names.map λ(n,k)=>if (k == NameKind.free && env.scope.kind == .function && env.kindOf n == some .cell) then (n,NameKind.cell) else (n,k)).lookup x=some .free)->(x,NameKind.free)∈names∨names.lookup x=some .cell
  | [],h=>by simp at h
  | (n,k) :: r,h=>by
    have ih:=@l8 env x r
    simp only[List.map_cons]at h
    by_cases hb:(k == NameKind.free && env.scope.kind == .function && env.kindOf n == some .cell)=true
    · rw[if_pos hb]at h
      have Ss:k=.free:=by
        have:=(Bool.and_eq_true_iff.mp (Bool.and_eq_true_iff.mp hb).1).1
        simpa using this
      by_cases hx:x=n
      · rw[hx,Ss];exact .inl List.mem_cons_self
      · have EU:(x == n)=false:=by simpa using hx
        simp only[List.lookup_cons,EU]at h ⊢
        exact(ih h).imp (List.mem_cons_of_mem _) id
    · rw[if_neg hb]at h
      by_cases hx:x=n
      · have EU:(x == n)=true:=by simpa using hx
        simp only[List.lookup_cons,EU]at h ⊢
        rcases h with h|h
        · exact .inr h
        · rw[hx,Option.some.inj h];exact .inl List.mem_cons_self
      · have EU:(x == n)=false:=by simpa using hx
        simp only[List.lookup_cons,EU]at h ⊢
        exact(ih h).imp (List.mem_cons_of_mem _) id
theorem iK:∀ (names:List (Str × NameKind)) (n:Nat)(acc more:List (Str × Addr)),cellsFrom n names (acc++more)=cellsFrom n names acc++more
 | [],_,_,_=>rfl
 | (x,k) :: r,n,acc,more=>by
  unfold cellsFrom
  split
  ·exact iK r (n+1) ((x,n) :: acc) more
  ·exact iK r n acc more
theorem iJ:∀ (names:List (Str × NameKind)) (n:Nat)(acc:List (Str × Addr)) (x:Str)(c:Addr),(x,c)∈cellsFrom n names acc->(x,NameKind.cell)∈names∨(x,c)∈acc
 | [],_,_,_,_,h=>.inr h
 | (y,k) :: r,n,acc,x,c,h=>by
  unfold cellsFrom at h
  split at h
  ·rename_i hk
   have hk:k=.cell:=by simpa using hk
   rcases iJ r _ _ x c h with z|z
   ·exact .inl (List.mem_cons_of_mem _ z)
   ·rcases List.mem_cons.mp z with z|z
    ·cases z;rw[hk];exact .inl List.mem_cons_self
    ·exact .inr z
  ·exact(iJ r _ _ x c h).imp (List.mem_cons_of_mem _) id
theorem kO {M:Model}{A:Around}{E:Value->Shared->Prop}{s:Shared}{scope:Scope}{globals:Addr}{closure:List (Str × Addr)}{qual:Str}{outer:Env}{Q:Env->Shared->Prop}
  (hQ:Q (newEnv scope s.heap.objs.size globals (cellsFrom (s.heap.objs.size+1) scope.names closure) qual none .none (some outer) 0) { s with heap:=pushCells (s.heap.push { cls:=.type "dict",data:=.dict #[] }) scope.names }) :
  wpAny M A (newFunctionEnv scope globals closure [] qual none .none (some outer)) Q E s:=by
 simp only[newFunctionEnv,Option.isSome_some,if_true]
 refine wpAny_bind (wpAny_alloc ?_)
 refine wpAny_bind (wpAny_layCells _ (λ name kind cells=>by cases Su:kind == NameKind.cell<;>simp[Su]) _ _ _ _ ?_)
 rw[show({ s with heap:=s.heap.push { cls:=.type "dict",data:=.dict #[] } }:Shared).heap.objs.size=s.heap.objs.size+1 from Heap.size_push ..]
 exact wpAny_bind (wpAny_pure (wpAny_pure hQ))
def bX (X:Cx)(l:List (Str × Option Nat)) (scope:Scope)(cl:List (Str × Addr)) (C:Addr)(fp:List Addr)(s3:Shared)(H3:Hp):Cx:=
 { X with N:=l.map (·.1),gS:=s3,wt:=H3,env:=compEnvC scope cl C X.env,outer:=X.stack,ex:=fp,fn:=λ x=>scope.names.lookup x == some .cell,pn:=[],xe:=λ _ _=>False }
def FG (X:Cx)(ifs:List Expr)(t:TT):Prop:=
 ∀ (pins:List (Addr × Obj)) (s:Shared) (σ:St) (H:Hp) (Q:Bool->Hp->Prop),Inv X pins σ H s->t σ H Q->
  wpAny (model X.prog X.w) X.A (forIn ifs true λ c r=>if r=true then do let ok <-isTrue c X.env (eval c X.env);pure (ForInStep.yield ok) else pure (ForInStep.yield r)) (TP X pins σ Q) X.xe s
def N5:TT:=λ _ H Q=>Q true H
theorem DH {X:Cx}:FG X [] N5:=λ _ _ _ H _ I h=>wpAny_tests_nil ⟨H,I,h⟩
theorem DG {X:Cx}{c:Expr}{t:TT}(h:PT X c t):FG X [c] t:=λ pins s σ H Q I hw=>wpAny_tests_one (h pins s σ H Q I hw)
theorem tI {prog:Program}{w:World}{A:Around}{R:Result->Shared->Prop}{s:Shared}{elt target iter:Expr}{ifs:List Expr}{scope:Scope}{pos:Pos}{it acc:Value}{env:Env}(I:Nat->Shared->Prop)
  (turn:∀ n s,I n s->wpAny (model prog w) A (pyNext it) (λ r s₁=>match r with
   | none=>R (.ok .next) s₁
   | some v=>wpAny (model prog w) A (letOwnedTupleGo target it v) (λ _ s₁'=>wpAny (model prog w) A (assign target env v) (λ _ s₂=>
     wpAny (model prog w) A (forIn ifs true λ c r=>if r=true then do let ok <-isTrue c env (eval c env);pure (ForInStep.yield ok) else pure (ForInStep.yield r)) (λ ok s₃=>
      if ok=true then wpAny (model prog w) A (eval elt env) (λ x s₄=>
       wpAny (model prog w) A (call (.builtin "list.append") [acc,x]) (λ _ s₅=>∃ m,m < n/\I m s₅) (λ _ _=>False) s₄) (λ _ _=>False) s₃
      else ∃ m,m < n/\I m s₃) (λ _ _=>False) s₂) (λ _ _=>False) s₁') (λ _ _=>False) s₁) (λ _ _=>False) s)
  (n:Nat) (h:I n s) :
  codeAny (model prog w) A (.compLoop (.ListComp elt [⟨target,iter,ifs,0⟩] scope pos) 0 it acc env) R s:=by
 have no:∀ {α:Type}{t:Sem α}{Q:α->Shared->Prop}{E:Value->Shared->Prop}{s:Shared},wpAny (model prog w) A t Q (λ _ _=>False) s->wpAny (model prog w) A t Q E s:=λ h=>wpAny_mono h (λ _ _ q=>q) λ _ _ f=>f.elim
 refine codeAny_loop rfl I (λ n s hI=>?_) n h
 show wpAny _ A ((compTurn (.ListComp elt [⟨target,iter,ifs,0⟩] scope pos) 0 it acc env).onRaise (λ x=>do noteFrame x env;theTreesLotGoes x)) _ _ s
 refine wpAny_noted ?_
 rw[compTurn_list]
 refine wpAny_bind (wpAny_standAt (wpAny_bind (bG (no (turn n s hI)) (λ r s₁ h₁=>?_))))
 cases r with
 | none=>exact wpAny_pure h₁
 | some v=>
  refine wpAny_bind (bG (no h₁) λ _ To SO=>?_)
  refine wpAny_bind (bG (no SO) (λ _ s₂ h₂=>wpAny_bind (bG (no h₂) (λ ok s₃ h₃=>?_))))
  cases ok with
  | false=>exact wpAny_pure ⟨rfl,h₃⟩
  | true=>
   exact wpAny_bind (wpAny_bind (bG (no h₃) (λ x s₄ h₄=>wpAny_bind (bG (no h₄) (λ _ s₅ h₅=>wpAny_pure (wpAny_pure ⟨rfl,h₅⟩))))))
def Gw (l:List (Str × Option Nat)) (g:TG)(tt:TT)(te:TE)(J:It)(σ:St)(H1:Hp)(Q:Addr->Hp->Prop):Prop:=
 ∀ D,H1 D=none->∃ W:Nat->Nat->List V->St->Hp->Prop,(∃ m,W 0 m [] (xU l σ) (upd H1 D (.lst [])))/\∀ i m ys σ1 H2,W i m ys σ1 H2->
  (J.stop i H2/\Q D H2)∨(J.go i H2/\∀ x H3,J.CQ i H2 x H3->g x σ1 H3 λ σ2 H4=>tt σ2 H4 λ b H5=>
   if b=true then te σ2 H5 λ v H6=>H6 D=some (.lst ys)/\ys.length < sizeLine/\∃ m',m' < m/\W (i+1) m' (ys++[v]) σ2 (upd H6 D (.lst (ys++[v]))) else ∃ m',m' < m/\W (i+1) m' ys σ2 H5)
def GN (l:List (Str × Option Nat)) (wi:TI)(g:TG)(tt:TT)(te:TE)(σ:St)(H:Hp)(Q:Addr->Hp->Prop):Prop:=
 wi σ H λ J H1=>Gw l g tt te J σ H1 Q
theorem rX {X:Cx}{elt tg iter:Expr}{ifs:List Expr}{scope:Scope}{cl:List (Str × Addr)}{pos:Pos}{l:List (Str × Option Nat)}{g:TG}{tt:TT}{te:TE}
  (Q0:closureFor scope X.env=pure cl) (vZ:∀ y c,cl.lookup y=some c->X.env.cells.lookup y=some c) (LZ:∀ x∈scope.names,x.2=.free->∃ c,cl.lookup x.1=some c)
  (Bv:scope.kind=.function) (xi:∀ y∈scope.names,y.2=.cell->scope.names.lookup y.1=some .cell) (kZ:X.calm=true) (Pn:jb X scope l)
  (hg:∀ cl C fp s3 H3,PG (bX X l scope cl C fp s3 H3) tg g) (ht:∀ cl C fp s3 H3,FG (bX X l scope cl C fp s3 H3) ifs tt) (he:∀ cl C fp s3 H3,PE (bX X l scope cl C fp s3 H3) elt te)
  {pins:List (Addr × Obj)}{σ:St}{H:Hp}{s:Shared}{it:Addr}{fp:List Addr}{tn:Nat->Heap->Prop}{J:It}{Q:Addr->Hp->Prop}{RR:Value->Addr->Result->Shared->Prop}{E:Value->Shared->Prop}
  (I:Inv X pins σ H s) (T:Turn X.prog X.w X.K tg J fp it tn) (st:tn 0 s.heap) (QY:∀ b∈fp,qI X pins H b)
  (hw:Gw l g tt te J σ H Q)
  (SG:∀ D C (s':Shared) (H':Hp),Q D H'->(∃ m,s'.heap.Ns C m)->Inv X pins σ H' s'->qI X pins H' C->RR (.ref D) C (.ok .next) s') :
  wpAny (model X.prog X.w) X.A (newList []) (λ acc s₃=>wpAny (model X.prog X.w) X.A (newFunctionEnv scope X.env.globals cl [] X.env.qual none .none (some X.env)) (λ M5 s₄=>
   codeAny (model X.prog X.w) X.A (.compStart (.ListComp elt [⟨tg,iter,ifs,0⟩] scope pos) 0 (.ref it) acc { M5 with scope:=relabel scope X.env }) (RR acc M5.locals) s₄) E s₃) E s:=by
 refine wpAny_newList ?_ (by show 0<=sizeLine;exact Nat.zero_le _)
 have I3:Inv X pins σ (upd H s.heap.objs.size (.lst [])) { s with heap:=s.heap.push { cls:=.type "list",data:=.seq ([]:List Value).toArray } }:=
  I.ID (its:=[]) (ys:=[]) (t':=s.toks) .nil (Nat.zero_le _)
 have hD:H s.heap.objs.size=none:=I.fresh
 obtain⟨W,⟨m0,w0⟩,turn⟩:=hw _ hD
 have fpD:∀ b∈fp,b≠s.heap.objs.size:=λ b hb z=>by
  obtain⟨o,ho,_⟩:=T.obj _ _ st b hb
  exact absurd (Heap.lt_size ho) (by rw[z];exact Nat.lt_irrefl _)
 have tf:∀ b∈fp,qI X pins (upd H s.heap.objs.size (.lst [])) b:=λ b hb=>⟨by rw[ah (fpD b hb)];exact(QY b hb).1,(QY b hb).2⟩
 have C6:tn 0 (s.heap.push { cls:=.type "list",data:=.seq ([]:List Value).toArray }):=T.keep _ _ _ st λ b _ o e=>Heap.get?_push_of_some _ e
 generalize TU:s.heap.objs.size=D at *
 generalize Se:({ s with heap:=s.heap.push { cls:=.type "list",data:=.seq ([]:List Value).toArray } }:Shared)=s3 at *
 have GQ:tn 0 s3.heap:=by rw[<-Se];exact C6
 generalize SM:upd H D (HO.lst [])=H3 at *
 refine kO ?_
 have eC:(newEnv scope s3.heap.objs.size X.env.globals (cellsFrom (s3.heap.objs.size+1) scope.names cl) X.env.qual none Value.none (some X.env) 0).locals=s3.heap.objs.size:=rfl
 have Qd:=cellsFrom_ok scope.names (s3.heap.push { cls:=.type "dict",data:=.dict #[] }) (s3.heap.objs.size+1) [] ⟨λ _ _ hm=>(nomatch hm),List.Pairwise.nil⟩ (by rw[Heap.size_push];exact Nat.le_refl _)
 rw[Heap.size_push]at Qd
 have S1:cellsFrom (s3.heap.objs.size+1) scope.names cl=cellsFrom (s3.heap.objs.size+1) scope.names []++cl:=iK scope.names _ [] cl
 have ND:(pushCells (s3.heap.push { cls:=.type "dict",data:=.dict #[] }) scope.names).Ns s3.heap.objs.size (λ _=>none):=(Heap.Ns.new s3.heap (.type "dict")).keeps (pushCells_keeps _ _)
 have old:∀ b o,s3.heap.get? b=some o->(pushCells (s3.heap.push { cls:=.type "dict",data:=.dict #[] }) scope.names).get? b=some o:=λ b o e=>pushCells_keeps _ _ b o (Heap.get?_push_of_some _ e)
 rw[S1]at *
 have ownN:∀ x c,(cellsFrom (s3.heap.objs.size+1) scope.names []).lookup x=some c->scope.names.lookup x=some .cell:=λ x c e=>by
  rcases iJ _ _ _ _ _ (mem_of_lookup e) with z|z
  ·exact xi _ z rfl
  ·exact nomatch z
 have ownS:∀ x,scope.names.lookup x=some .cell->∃ c,(cellsFrom (s3.heap.objs.size+1) scope.names []).lookup x=some c:=λ x e=>Option.isSome_iff_exists.mp (PySem.W.cellsFrom_some scope.names _ [] (.inl e))
 generalize Sg:cellsFrom (s3.heap.objs.size+1) scope.names []=own at *
 generalize TQ:pushCells (s3.heap.push { cls:=.type "dict",data:=.dict #[] }) scope.names=h4 at *
 generalize hC:s3.heap.objs.size=C at *
 have eE:({ newEnv scope C X.env.globals (own++cl) X.env.qual none Value.none (some X.env) 0 with scope:=relabel scope X.env }:Env)=compEnvC scope (own++cl) C X.env:=rfl
 have cs_of:∀ x c,(own++cl).lookup x=some c->(own.lookup x=some c/\h4.IsCell c none/\C+1<=c)∨(own.lookup x=none/\cl.lookup x=some c):=λ x c e=>by
  rw[List.lookup_append]at e
  cases q:own.lookup x with
  | none=>rw[q]at e;exact .inr ⟨rfl,e⟩
  | some d=>rw[q]at e;cases e;exact .inl ⟨rfl,Qd.empty x c (mem_of_lookup q)⟩
 have of_cl:∀ x c,scope.names.lookup x≠some .cell->cl.lookup x=some c->(own++cl).lookup x=some c:=λ x c n e=>by
  rw[List.lookup_append]
  cases q:own.lookup x with
  | none=>exact e
  | some d=>exact(n (ownN x d q)).elim
 have cltC:∀ y c,cl.lookup y=some c->c < C:=λ y c e=>by
  obtain⟨v,q⟩:=I3.cell y c (vZ y c e)
  have:=q.lt
  rw[hC]at this
  exact this
 have fpC:∀ b∈fp,b≠C:=λ b hb z=>by
  obtain⟨o,ho,_⟩:=T.obj _ _ GQ b hb
  exact absurd (Heap.lt_size ho) (by rw[z,hC];exact Nat.lt_irrefl _)
 have cellC:∀ y c,(own++cl).lookup y=some c->c≠C:=λ y c e z=>by
  rcases cs_of y c e with⟨_,_,q⟩|⟨_,q⟩
  ·rw[z]at q;exact absurd q (Nat.not_succ_le_self _)
  ·exact absurd (cltC y c q) (by rw[z];exact Nat.lt_irrefl _)
 have fpB:∀ b∈fp,b < C:=λ b hb=>by
  obtain⟨o,ho,_⟩:=T.obj _ _ GQ b hb
  rw[<-hC];exact Heap.lt_size ho
 have fpCs:∀ b∈fp,∀ x c,(own++cl).lookup x=some c->c≠b:=λ b hb x c e z=>by
  rcases cs_of x c e with⟨_,_,q⟩|⟨_,q⟩
  ·rw[z]at q;exact absurd (Nat.lt_of_lt_of_le (fpB b hb) (Nat.le_of_succ_le q)) (Nat.lt_irrefl _)
  ·exact(tf b hb).2.2.2.2.1 x c (vZ x c q) z
 have H3C:H3 C=none:=by
  have:=I3.fresh
  rw[hC]at this
  exact this
 have DC:D≠C:=by
  intro z
  have:=(show H3 D=some (.lst []) by rw[<-SM];exact av)
  rw[z,H3C]at this;cases this
 have OK:(bX X l scope (own++cl) C fp s3 H3).Ok:={
  mod:=I3.ok.mod
  kind:=Bv
  glob:=I3.ok.glob
  blt:=I3.ok.blt
  above:=Nat.le_of_eq hC
  inj:=λ x y c e1 e2=>by
   rcases cs_of x c e1 with⟨p1,_,p3⟩|⟨_,p1⟩<;>rcases cs_of y c e2 with⟨q1,_,q3⟩|⟨_,q1⟩
   ·exact name_of_addr Qd.apart (mem_of_lookup p1) (mem_of_lookup q1)
   ·exact absurd (cltC y c q1) (Nat.not_lt.mpr (Nat.le_of_succ_le p3))
   ·exact absurd (cltC x c p1) (Nat.not_lt.mpr (Nat.le_of_succ_le q3))
   ·exact I3.ok.inj x y c (vZ x c p1) (vZ y c q1)
  has:=λ x hx=>by
   show ∃ c,(own++cl).lookup x=some c
   rw[List.lookup_append]
   cases q:own.lookup x with
   | some d=>exact⟨d,rfl⟩
   | none=>
    rcases l8 hx with z|z
    ·obtain⟨c,e⟩:=LZ (x,.free) z rfl
     exact⟨c,e⟩
    ·obtain⟨c,e⟩:=ownS x z
     rw[q]at e;cases e
  Gq:=λ x c hf e=>by
   have hf:(scope.names.lookup x == some NameKind.cell)=true:=hf
   have hf:scope.names.lookup x=some .cell:=by simpa using hf
   obtain⟨d,ed⟩:=ownS x hf
   rcases cs_of x c e with⟨_,_,q⟩|⟨q,_⟩
   ·show s3.heap.objs.size<=c
    rw[hC];omega
   ·rw[q]at ed;cases ed
  hd:=I3.ok.hd
  frames:=I3.ok.frames
  GO:=.inl rfl
  Mn:=λ b hb=>⟨fpC b hb,fpCs b hb⟩
  bs:=λ b o e=>I3.bs b o e
  xA:=Nat.le_trans I3.ok.xA I3.sz
  uB:=λ b o e hb=>by
   rcases(tf b hb).2.2.2.1 with z|z
   ·exact I3.ok.uB b o e z
   ·exact absurd (Nat.lt_of_lt_of_le (Heap.lt_size e) (Nat.le_trans I3.ok.xA z)) (Nat.lt_irrefl _)
  uR:=λ b hb hz=>by
   rcases List.mem_cons.mp (I3.vy b hz) with z|z
   ·exact(tf b hb).2.1 z
   ·exact(tf b hb).2.2.1 z
  lP:=I3.stack
  CK:=I3.oO }
 have fpX:∀ {H':Hp},(∀ b∈fp,H' b=none)->∀ b∈fp,qI (bX X l scope (own++cl) C fp s3 H3) [] H' b:=λ hn b hb=>
  ⟨hn b hb,fpC b hb,OK.uR b hb,.inl hb,fpCs b hb,λ p hp=>nomatch hp⟩
 have I4:Inv (bX X l scope (own++cl) C fp s3 H3) [] (xU l σ) H3 { s3 with heap:=h4 }:={
  ok:=OK
  os:=rfl
  bare:=I3.bare
  base:=Un.kept old
  loc:=by
   refine⟨_,ND,λ i x v e1 e2 e3=>?_⟩
   have CL:(l.map (·.1))[i]? = some x:=e1
   have NP:(l.map λ p=>p.2.bind λ j=>(σ[j]?).join)[i]? = some (some v):=e2
   rw[List.getElem?_map]at CL NP
   cases el:l[i]? with
   | none=>rw[el]at CL;cases CL
   | some p=>
    rw[el]at CL NP
    obtain⟨y,o⟩:=p
    have Qa:y=x:=Option.some.inj CL
    subst Qa
    cases o with
    | none=>cases NP
    | some j=>
     have Fh:(σ[j]?).join=some v:=Option.some.inj NP
     have ej:σ[j]? = some (some v):=by
      cases q:σ[j]? with
      | none=>rw[q]at Fh;cases Fh
      | some z=>rw[q]at Fh;exact congrArg some Fh
     obtain⟨k1,k2,k3⟩:=Pn.get el
     obtain⟨m,hn,hl⟩:=I3.loc
     obtain⟨u,r,lk⟩:=hl j y v k1 ej (k3.elim (λ z=>.inr (.inl z)) λ z=>.inr (.inr z))
     refine⟨u,r,.inr ⟨gB k2,?_⟩⟩
     rcases lk with⟨z,_⟩|⟨_,c,ec,Jb⟩
     ·rcases k3 with k3|k3<;>(rw[z]at k3;cases k3)
     ·have hm:(y,NameKind.free)∈scope.names:=by
       have:∀ {names:List (Str × NameKind)},names.lookup y=some NameKind.free->(y,NameKind.free)∈names:=by
        intro names
        induction names with
        | nil=>intro h;simp at h
        | cons q r ih=>
         intro h
         obtain⟨n,k⟩:=q
         rw[List.lookup_cons]at h
         split at h
         ·rename_i hy
          have:y=n:=by simpa using hy
          subst this
          cases h
          exact List.mem_cons_self
         ·exact List.mem_cons_of_mem _ (ih h)
       exact this k2
      obtain⟨c',NO⟩:=LZ _ hm rfl
      have:c'=c:=by
       have:=vZ _ _ NO
       rw[ec]at this
       exact(Option.some.inj this).symm
      subst this
      obtain⟨o,ho,hd⟩:=Jb
      exact⟨c',of_cl _ _ (by rw[k2];intro z;cases z) NO,o,old _ _ ho,hd⟩
  cell:=λ x c e=>by
   rcases cs_of x c e with⟨_,q,_⟩|⟨_,q⟩
   ·exact⟨none,q⟩
   ·obtain⟨v,o,ho,hd⟩:=I3.cell x c (vZ x c q)
    exact⟨v,o,old _ _ ho,hd⟩
  free:=H3C
  ij:=λ x c e=>by
   rcases cs_of x c e with⟨_,_,q⟩|⟨_,q⟩
   ·exact I3.aQ.fresh (by rw[hC];omega)
   ·exact I3.ij x c (vZ x c q)
  pin:=λ p hp=>nomatch hp
  aQ:=I3.aQ.kept old
  len:=by show(List.map _ l).length=(List.map _ l).length;rw[List.length_map,List.length_map] }
 have Oo:tn 0 h4:=T.keep _ _ _ GQ λ b _ o e=>old b o e
 have loop:∀ s4:Shared,s4={ s3 with heap:=h4 }->
   codeAny (model X.prog X.w) X.A (.compLoop (.ListComp elt [⟨tg,iter,ifs,0⟩] scope pos) 0 (.ref it) (.ref D) (compEnvC scope (own++cl) C X.env)) (RR (.ref D) C) s4:=by
  rintro s4 rfl
  refine tI (λ n s'=>∃ i ys σ' H',Inv (bX X l scope (own++cl) C fp s3 H3) [] σ' H' s'/\tn i s'.heap/\(∀ b∈fp,H' b=none)/\W i n ys σ' H') ?_ m0
   ⟨0,[],xU l σ,H3,I4,Oo,λ b hb=>(tf b hb).1,w0⟩
  rintro n s5 ⟨i,ys,σ5,H5,I5,JB,NL,w5⟩
  rcases turn i n ys σ5 H5 w5 with⟨stop,q⟩|⟨go,step⟩
  ·refine bG (T.done (bX X l scope (own++cl) C fp s3 H3) rfl rfl rfl kZ i [] s5 σ5 H5 _ I5 (fpX NL) JB stop) λ r s6 ⟨hr,I6⟩=>?_
   subst hr
   obtain⟨m6,Sn,_⟩:=I6.loc
   have u:Un (ub X.stack) fp H3 H5 s3.heap s6.heap:=I6.base
   refine SG D C s6 H5 q ⟨m6,Sn⟩ (I3.M7 (s':=s6) (ch:=fp) I6.os u I6.aQ I6.bare λ b hb=>⟨(tf b hb).2.2.2.1,(tf b hb).2.1,(tf b hb).2.2.2.2.1,(tf b hb).2.2.2.2.2⟩) ?_
   have hle:s3.heap.objs.size<=C:=Nat.le_of_eq hC
   have f0:=I3.v8 (H':=H5) hle I6.free
   exact f0
  ·refine bG (T.item (bX X l scope (own++cl) C fp s3 H3) rfl rfl rfl kZ i [] s5 σ5 H5 _ I5 (fpX NL) JB go) λ r s6 ⟨u,hr,h6⟩=>?_
   subst hr
   refine bG h6 λ _ s7 ⟨x,H7,I7,r7,y7,Om,SQ⟩=>?_
   have I7':=I7.pinned (fpX SQ) (T.obj _ _ Om)
   have back:∀ {σ8:St}{H8:Hp}{s8:Shared},Inv (bX X l scope (own++cl) C fp s3 H3) ([]++pF fp s7.heap) σ8 H8 s8->Inv (bX X l scope (own++cl) C fp s3 H3) [] σ8 H8 s8/\tn (i+1) s8.heap/\∀ b∈fp,H8 b=none:=λ {σ8 H8 s8} I8=>by
    refine⟨I8.lZ,T.keep _ _ _ Om λ b hb o e=>(I8.pin (b,o) (List.mem_append_right _ (List.mem_append_right _ (ji hb e)))).1,λ b hb=>?_⟩
    obtain⟨o,e,d⟩:=T.obj _ _ Om b hb
    exact(I8.pin (b,o) (List.mem_append_right _ (List.mem_append_right _ (ji hb e)))).2.1
   refine bG (hg (own++cl) C fp s3 H3 _ s7 σ5 H7 x u _ I7' r7 (step x H7 y7)) λ _ s8 ⟨σ8,H8,I8,q8⟩=>?_
   refine bG (ht (own++cl) C fp s3 H3 _ s8 σ8 H8 _ I8 q8) λ ok s9 ⟨H9,I9,q9⟩=>?_
   cases ok with
   | false=>
    rw[if_neg (by decide)]at q9 ⊢
    obtain⟨m',hm,w9⟩:=q9
    obtain⟨z1,z2,z3⟩:=back I9
    exact⟨m',hm,i+1,ys,σ8,H9,z1,z2,z3,w9⟩
   | true=>
    rw[if_pos rfl]at q9 ⊢
    refine bG (he (own++cl) C fp s3 H3 _ s9 σ8 H9 _ I9 q9) λ xv Qx ⟨v,H10,I10,Ku,RJ⟩=>?_
    obtain⟨PD,hz,m',hm,Rq⟩:=RJ
    refine bG (rh _ Qx σ8 H10 (.ref D) [v] (.ref D) [xv] (λ z H'=>z=.az/\H'=upd H10 D (.lst (ys++[v]))) I10 rfl (.cons Ku .nil) ⟨D,ys,v,rfl,rfl,PD,hz,rfl,rfl⟩) λ _ Tn NK=>?_
    obtain⟨_,H11,I11,_,_,S5⟩:=NK
    subst S5
    obtain⟨z1,z2,z3⟩:=back I11
    exact⟨m',hm,i+1,ys++[v],σ8,_,z1,z2,z3,Rq⟩
 exact codeAny_compStart_list (loop _ rfl) (T.self _ 0 _ _ _ Oo (loop _ rfl))
def zw (l:List (Str × Option Nat)) (wi:TI)(g:TG)(tt:TT)(te:TE):TE:=λ σ H Q=>GN l wi g tt te σ H λ D H'=>Q (.ref D) H'
section
variable {X:Cx}{elt tg iter:Expr}{ifs:List Expr}{scope:Scope}{pos:Pos}{wi:TI}{g:TG}{tt:TT}{te:TE}
structure eG (X:Cx)(scope:Scope)(l:List (Str × Option Nat)):Prop where
 kind:scope.kind=.function
 cell:∀ y∈scope.names,y.2=.cell->scope.names.lookup y.1=some .cell
 names:∀ y∈scope.names,y.2=.local->scope.names.lookup y.1=some .local
 free:∀ y∈scope.names,y.2=.free->X.env.kindOf y.1=some .cell∨X.env.kindOf y.1=some .free
 src:jb X scope l
theorem DQ (l:List (Str × Option Nat)) (uO:eG X scope l)(kZ:X.calm=true)(hi:PI X tg iter wi)
  (hg:∀ cl C fp s3 H3,PG (bX X l scope cl C fp s3 H3) tg g) (ht:∀ cl C fp s3 H3,FG (bX X l scope cl C fp s3 H3) ifs tt) (he:∀ cl C fp s3 H3,PE (bX X l scope cl C fp s3 H3) elt te)
  (hs:∀ x,foldedSetIterable iter X.env x=pure x:=by intro _;rfl) :
  PE X (.ListComp elt [⟨tg,iter,ifs,0⟩] scope pos) (zw l wi g tt te):=by
 intro pins s σ H Q I h
 obtain⟨cl,e1,e2,e3⟩:=k_ (scope:=scope) (env:=X.env) λ x hx hf=>I.ok.has x.1 (uO.free x hx hf)
 rw[eval_ListComp]
 refine wpAny_comprehension_free (use:=none) rfl hs e1 uO.kind uO.names (bG (hi pins s σ H _ I h) λ v s1 h1=>bG h1 λ Nv s2 h2=>?_)
 obtain⟨it,fp,tn,J,H2,e,I2,T,yN,f2,hw⟩:=h2
 subst e
 refine rX (RR:=λ acc C=>compPost (model X.prog X.w) X.A X.xe none (EP X pins σ Q) acc C) e1 e2 e3 uO.kind uO.cell kZ uO.src hg ht he I2 T yN f2 hw ?_
 intro D C s' H' q ⟨m,hn⟩ I' f'
 refine⟨m,hn,λ h' Pp=>?_⟩
 exact⟨.ref D,H',I'.turned (t':=s'.toks) (λ b o hb e=>(Pp.2 b hb).trans e) f'.1 f'.2.1 f'.2.2.2.1 f'.2.2.2.2.1 f'.2.2.2.2.2,rfl,q⟩
theorem vG {i:Nat}{y:Str}{py zE:Pos}(l:List (Str × Option Nat)) (uO:eG X scope l)(kZ:X.calm=true)(hN:X.N.Nodup)(hy:X.N[i]? = some y)(hx:X.env.scope.names.lookup y=some .local)(hi:PI X tg iter wi)
  (hg:∀ cl C fp s3 H3,PG (bX X l scope cl C fp s3 H3) tg g) (ht:∀ cl C fp s3 H3,FG (bX X l scope cl C fp s3 H3) ifs tt) (he:∀ cl C fp s3 H3,PE (bX X l scope cl C fp s3 H3) elt te)
  (Pm:swapsWith (.ListComp elt [⟨tg,iter,ifs,0⟩] scope pos) (some (.Name y py)) zE.line X.env=pure true)
  (hs:∀ x,foldedSetIterable iter X.env x=pure x:=by intro _;rfl) :
  PS X (.Assign [.Name y py] (.ListComp elt [⟨tg,iter,ifs,0⟩] scope pos) zE) (C4 (zw l wi g tt te) (xm i)):=by
 intro pins s σ H D0 I h
 obtain⟨cl,e1,e2,e3⟩:=k_ (scope:=scope) (env:=X.env) λ x hx hf=>I.ok.has x.1 (uO.free x hx hf)
 rw[exec_Assign_Name_used _ _ _ _ Pm]
 refine wpAny_bind (wpAny_standAt (wpAny_bind ?_))
 show wpAny _ X.A (do let _ <-comprehension (.ListComp elt [⟨tg,iter,ifs,0⟩] scope pos) scope X.env _ (newList []) false (eval iter X.env) (some (assign (.Name y py) X.env))) _ _ s
 refine wpAny_bind (bG (wpAny_comprehension_free (use:=some (assign (.Name y py) X.env)) (Q:=λ _ s'=>SP X pins D0 .next s') rfl hs e1 uO.kind uO.names
  (bG (hi pins s σ H _ I h) λ v s1 h1=>bG h1 λ Nv s2 h2=>?_)) λ _ s' hq=>wpAny_pure (wpAny_pure hq))
 obtain⟨it,fp,tn,J,H2,e,I2,T,yN,f2,hw⟩:=h2
 subst e
 refine rX (RR:=λ acc C=>compPost (model X.prog X.w) X.A X.xe (some (assign (.Name y py) X.env)) (λ _ s'=>SP X pins D0 .next s') acc C) e1 e2 e3 uO.kind uO.cell kZ uO.src hg ht he I2 T yN f2 hw ?_
 intro D C s' H' q ⟨m,hn⟩ I' f'
 show wpAny _ X.A (assign (.Name y py) X.env (.ref D)) _ _ _
 refine wpAny_assign_Name (qR (v:=.ref D) I' hN hy (.inl hx) rfl (λ vi I'' hk=>?_) (.inr hx))
 obtain⟨a,Sb,ha⟩:=hk
 have SN:C≠a:=by
  rintro rfl
  rcases ha with z|z
  ·exact f'.2.1 z
  ·exact f'.2.2.2.2.1 y _ z rfl
 refine⟨m,hn.sameBut Sb SN,λ h' Pp=>?_⟩
 exact⟨_,H',I''.turned (t':=vi.toks) (λ b o hb e=>(Pp.2 b hb).trans e) f'.1 f'.2.1 f'.2.2.2.1 f'.2.2.2.2.1 f'.2.2.2.2.2,q⟩
end
end L2
namespace L2
open PySem PySem.Spec PyProof.Rows
def eJ (n:Nat)(i:Int):Prop:=i.natAbs < 2 ^ n
theorem eJ.mono {n m:Nat}{i:Int}(h:eJ n i)(k:n<=m):eJ m i:=Nat.lt_of_lt_of_le h (Nat.pow_le_pow_right (by decide) k)
theorem eJ.mul {n m:Nat}{i j:Int}(h:eJ n i)(k:eJ m j):eJ (n+m) (i * j):=by
 unfold eJ at *
 rw[Int.natAbs_mul,Nat.pow_add]
 exact Nat.mul_lt_mul'' h k
theorem eJ.add {n:Nat}{i j:Int}(h:eJ n i)(k:eJ n j):eJ (n+1) (i+j):=by
 unfold eJ at *
 have:=Int.natAbs_add_le i j
 rw[Nat.pow_succ]
 omega
theorem eJ.le {n:Nat}{i j:Int}(h:eJ n i)(k:j.natAbs<=i.natAbs):eJ n j:=Nat.lt_of_le_of_lt k h
theorem eJ.bits {n:Nat}{i:Int}(h:eJ n i):Builtin.Int.intBits i<=n:=by
 unfold Builtin.Int.intBits
 split
 ·exact Nat.zero_le _
 ·rename_i hz
  have h0:i.natAbs≠0:=by
   intro z
   apply hz
   have:i=0:=by omega
   simp[this]
  have:=(Nat.log2_lt h0).mpr h
  omega
theorem eJ.log {n:Nat}{i:Int}(h:eJ n i)(hn:0 < n):i.natAbs.log2 < n:=by
 by_cases h0:i.natAbs=0
 ·rw[h0]
  show Nat.log2 0 < n
  have:Nat.log2 0=0:=by decide
  rw[this];exact hn
 ·exact(Nat.log2_lt h0).mpr h
theorem eJ.K_ {i j:Int}(h:eJ 60000000 i)(k:eJ 60000000 j):IntMulOk i j:=by
 have h1:=h.bits
 have h2:=k.bits
 unfold IntMulOk
 have e:Builtin.Int.intTooBig (((Builtin.Int.intBits i+Builtin.Int.intBits j:Nat)):Int)=false:=by
  unfold Builtin.Int.intTooBig
  refine decide_eq_false ?_
  show ¬ ((((Builtin.Int.intBits i+Builtin.Int.intBits j:Nat)):Int) > (((2 ^ 27:Nat)):Int))
  have:(2 ^ 27:Nat)=134217728:=by decide
  omega
 simp[e]
 try (intro _ _;exact_mod_cast e)
theorem rP {i:Int}{n:Nat}(h1:-(2 ^ n) < i) (h2:i < 2 ^ n):eJ n i:=by
 unfold eJ
 have e:((2 ^ n:Nat):Int)=(2:Int) ^ n:=by
  rw[Int.natCast_pow];rfl
 have:(i.natAbs:Int) < ((2 ^ n:Nat):Int):=by rw[e];omega
 exact_mod_cast this
section
variable {X:Cx}
theorem DT:hU X (binaryOp .Mult) (rI (λ i j=>eJ 60000000 i/\eJ 60000000 j) λ i j=>.int (i * j)):=Np λ _ _ _ _ _ _ _ hc q=>mul_int q (hc.1.K_ hc.2)
theorem Au:hU X (binaryOp .FloorDiv) (rI (λ _ j=>j≠0/\eJ 9000 j) λ i j=>.int (i.fdiv j)):=Np λ _ _ _ _ _ _ _ hc q=>floordiv_int hc.1 q (.inl (PyProof.noPylong_of_log2 (hc.2.log (by decide))))
theorem tU:dJ X (.builtin "divmod") (λ xs H Q=>∃ i j,xs=[.int i,.int j]/\(0 < j/\eJ 9000 j)/\∀ p,H p=none->Q (.ref p) (upd H p (.tup [.int (i / j),.int (i % j)]))):=by
 intro pins s σ H xs us Q I r h
 obtain⟨i,j,rfl,⟨h1,h2⟩,q⟩:=h
 obtain⟨u,w',rfl,⟨t,rfl⟩,⟨t',rfl⟩⟩:=vals2 r
 refine divmod_int (by omega) ?_ (.inl (PyProof.noPylong_of_log2 (h2.log (by decide))))
 rw[Int.fdiv_eq_ediv_of_nonneg i (by omega),Int.fmod_eq_emod_of_nonneg i (by omega)]
 have hn:H s.heap.objs.size=none:=I.aQ.fresh (Nat.le_refl _)
 refine⟨.ref s.heap.objs.size,_,?_,rfl,q _ hn⟩
 refine I.laid (λ b o e=>Heap.get?_push_of_some _ e) (Nat.le_refl _) ⟨by simp only[List.length_cons,List.length_nil];rw[sizeLine_eq];decide,[.int (i / j) s.toks,.int (i % j) (s.toks+1)],.cons ⟨_,rfl⟩ (.cons ⟨_,rfl⟩ .nil),?_⟩
 exact⟨_,Heap.get?_push_size s.heap rfl,rfl,0,rfl⟩
theorem vc:∀ {bs:List Bool}{us:List Value},Vals (bs.map V.bl) us->∀ (i:Nat)(v:Value),us[i]? = some v->∃ b:Bool,bs[i]? = some b/\v=Value.bool b
 | [],us,r,i,v,e=>by
  cases r
  simp at e
 | b :: bs,us,r,i,v,e=>by
  cases r with
  | cons r1 r2=>
   cases i with
   | zero=>
    simp at e
    subst e
    exact⟨b,rfl,r1⟩
   | succ i=>
    obtain⟨b',e1,e2⟩:=vc r2 i v (by simpa using e)
    exact⟨b',by simpa using e1,e2⟩
theorem vE (bs:List Bool):((List.range bs.length).all λ i=>(bs[i]?).getD true)=bs.all id:=by
 rw[Bool.eq_iff_iff,List.all_eq_true,List.all_eq_true]
 constructor
 ·intro h b hb
  obtain⟨i,hi,e⟩:=List.getElem_of_mem hb
  have:=h i (List.mem_range.mpr hi)
  simp only[List.getElem?_eq_getElem hi,Option.getD_some,e]at this
  exact this
 ·intro h i hi
  have yR:=List.mem_range.mp hi
  simp only[List.getElem?_eq_getElem yR,Option.getD_some]
  exact h _ (List.getElem_mem yR)
theorem yJ (hc:X.calm=true):dJ X (.builtin "all") (λ xs H Q=>∃ (a:Addr) (bs:List Bool),xs=[.ref a]/\fh X.K H a (bs.map V.bl)/\Q (.bl (bs.all id)) H):=by
 intro pins s σ H xs us Q I r h
 obtain⟨a,bs,rfl,ha,q⟩:=h
 obtain⟨u,rfl,ru⟩:=vals1 r
 cases ru
 obtain⟨its,rv,p,hz⟩:=I.list ha
 have hl:=p.isList
 have xh:a < s.heap.objs.size:=by obtain⟨_,e,_⟩:=hl;exact Heap.lt_size e
 refine call_all_walk (wpAny_pyIter_list hl ?_)
 refine⟨s.heap.objs.size,[s.heap.objs.size,a],[s.heap.objs.size],its.toArray.size,_,_,λ i=>(bs[i]?).getD true,rfl,Walks.list (A:=X.A.in1) (I.ok.hd hc) _ a (Nat.ne_of_lt xh) its.toArray,
  ⟨⟨_,Heap.get?_push_size _ rfl,rfl,rfl⟩,hl.push _⟩,λ i v s' Q' E' hP hQ=>?_,λ h' tk hk=>?_⟩
 ·obtain⟨b,e,rfl⟩:=vc rv i v (by simpa using hP)
  simp only[e,Option.getD_some]at hQ
  exact wpAny_truthy_bool hQ
 ·have e:((List.range its.toArray.size).all λ i=>(bs[i]?).getD true)=bs.all id:=by
   rw[List.size_toArray,<-rv.length,List.length_map];exact vE bs
  rw[e]
  refine⟨.bl _,H,I.kept (t':=tk) λ b x e=>hk b x (λ hm=>?_) (Heap.get?_push_of_some _ e),rfl,q⟩
  rw[List.mem_singleton.mp hm]at e
  exact Nat.lt_irrefl _ (Heap.lt_size e)
end
inductive Dt where
 | az|bl (b:Bool)|int (i:Int)|str (x:Str)|tup (l:List Dt)|lst (l:List Dt)
mutual
def Dt.dep:Dt->Nat
 | .tup l=>dh l+1
 | .lst l=>dh l+1
 | _=>0
def dh:List Dt->Nat
 | []=>0
 | d :: r=>max d.dep (dh r)
end
mutual
def dg:Dt->Dt->Bool
 | .az,.az=>true
 | .bl a,.bl b=>a == b
 | .bl a,.int b=>(if a then 1 else 0) == b
 | .int a,.bl b=>a == (if b then 1 else 0)
 | .int a,.int b=>a == b
 | .str a,.str b=>a == b
 | .tup a,.tup b=>g6 a b
 | .lst a,.lst b=>g6 a b
 | _,_=>false
def g6:List Dt->List Dt->Bool
 | [],[]=>true
 | a :: r,b :: q=>dg a b && g6 r q
 | _,_=>false
end
mutual
def Rep (K:PySem.W.Frag)(N:Addr->Prop)(H:Hp):Dt->V->Prop
 | .az,v=>v=.az
 | .bl b,v=>v=.bl b
 | .int i,v=>v=.int i
 | .str x,v=>v=.str x
 | .tup l,v=>∃ a xs,v=.ref a/\¬ N a/\hR K H a xs/\di K N H l xs
 | .lst l,v=>∃ a xs,v=.ref a/\¬ N a/\fh K H a xs/\di K N H l xs
def di (K:PySem.W.Frag)(N:Addr->Prop)(H:Hp):List Dt->List V->Prop
 | [],xs=>xs=[]
 | d :: r,xs=>∃ x ys,xs=x :: ys/\Rep K N H d x/\di K N H r ys
end
def sf (N:Addr->Prop)(H H':Hp):Prop:=∀ b o,H b=some o->¬ N b->H' b=some o
theorem sf.Kk {K:PySem.W.Frag}{N:Addr->Prop}{H H':Hp}{a:Addr}{xs:List V}(s:sf N H H')(n:¬ N a)(h:hR K H a xs):hR K H' a xs:=by
 rcases h with(h|⟨o,h⟩)|h
 ·exact .inl (.inl (s _ _ h n))
 ·exact .inl (.inr ⟨o,s _ _ h n⟩)
 ·exact .inr h
theorem sf.xW {K:PySem.W.Frag}{N:Addr->Prop}{H H':Hp}{a:Addr}{xs:List V}(s:sf N H H')(n:¬ N a)(h:fh K H a xs):fh K H' a xs:=by
 rcases h with(h|⟨o,h⟩)|h
 ·exact .inl (.inl (s _ _ h n))
 ·exact .inl (.inr ⟨o,s _ _ h n⟩)
 ·exact .inr h
mutual
theorem Rep.same {K:PySem.W.Frag}{N:Addr->Prop}{H H':Hp}(s:sf N H H'):∀ {d:Dt}{v:V},Rep K N H d v->Rep K N H' d v
 | .az,_,h=>h
 | .bl _,_,h=>h
 | .int _,_,h=>h
 | .str _,_,h=>h
 | .tup l,v,h=>by
  unfold Rep at h ⊢
  obtain⟨a,xs,e,n,q,r⟩:=h
  exact⟨a,xs,e,n,s.Kk n q,di.same s r⟩
 | .lst l,v,h=>by
  unfold Rep at h ⊢
  obtain⟨a,xs,e,n,q,r⟩:=h
  exact⟨a,xs,e,n,s.xW n q,di.same s r⟩
theorem di.same {K:PySem.W.Frag}{N:Addr->Prop}{H H':Hp}(s:sf N H H'):∀ {l:List Dt}{xs:List V},di K N H l xs->di K N H' l xs
 | [],_,h=>h
 | d :: r,xs,h=>by
  unfold di at h ⊢
  obtain⟨x,ys,e,h1,h2⟩:=h
  exact⟨x,ys,e,Rep.same s h1,di.same s h2⟩
end
theorem di.length {K:PySem.W.Frag}{N:Addr->Prop}{H:Hp}:∀ {l:List Dt}{xs:List V},di K N H l xs->l.length=xs.length
 | [],xs,h=>by unfold di at h;rw[h];rfl
 | d :: r,xs,h=>by
  unfold di at h
  obtain⟨x,ys,rfl,_,h2⟩:=h
  rw[List.length_cons,List.length_cons,di.length h2]
theorem di.get {K:PySem.W.Frag}{N:Addr->Prop}{H:Hp}:∀ {l:List Dt}{xs:List V}{i:Nat}{d:Dt},di K N H l xs->l[i]? = some d->∃ x,xs[i]? = some x/\Rep K N H d x
 | [],xs,i,d,h,e=>by simp at e
 | d0 :: r,xs,0,d,h,e=>by
  unfold di at h
  obtain⟨x,ys,rfl,h1,_⟩:=h
  simp at e
  subst e
  exact⟨x,rfl,h1⟩
 | d0 :: r,xs,i+1,d,h,e=>by
  unfold di at h
  obtain⟨x,ys,rfl,_,h2⟩:=h
  obtain⟨y,e1,e2⟩:=di.get (i:=i) h2 (by simpa using e)
  exact⟨y,by simpa using e1,e2⟩
theorem kg:∀ {l q:List Dt},l.length≠q.length->g6 l q=false
 | [],[],h=>absurd rfl h
 | [],_ :: _,_=>by simp[g6]
 | _ :: _,[],_=>by simp[g6]
 | a :: r,b :: q,h=>by
  simp only[g6]
  rw[kg (l:=r) (q:=q) (by simpa using h),Bool.and_false]
theorem g0:∀ {l q:List Dt},l.length=q.length->g6 l q=(List.range l.length).all λ i=>match l[i]?,q[i]? with|some a,some b=>dg a b|_,_=>true
 | [],[],_=>by simp[g6]
 | a :: r,b :: q,h=>by
  simp only[g6]
  rw[g0 (l:=r) (q:=q) (by simpa using h),List.length_cons,List.range_succ_eq_map,List.all_cons,List.all_map]
  simp[Function.comp_def]
theorem u5:∀ {l:List Dt}{i:Nat}{d:Dt},l[i]? = some d->d.dep<=dh l
 | [],i,d,e=>by simp at e
 | a :: r,0,d,e=>by simp at e;subst e;simp only[dh];exact Nat.le_max_left _ _
 | a :: r,i+1,d,e=>by
  have:=u5 (l:=r) (i:=i) (d:=d) (by simpa using e)
  simp only[dh]
  exact Nat.le_trans this (Nat.le_max_right _ _)
section
variable {X:Cx}{pins:List (Addr × Obj)}{σ:St}{H:Hp}{s:Shared}{N N':Addr->Prop}
theorem uA (I:Inv X pins σ H s){a:Addr}{xs ys:List V}(h:fh X.K H a xs)(k:hR X.K H a ys):False:=by
 obtain⟨its,_,p,_⟩:=I.list h
 obtain⟨df,_,q,_⟩:=I.tuple k
 obtain⟨o,e,c,_⟩:=p.isList
 obtain⟨o2,e2,c2,_⟩:=q
 rw[e]at e2
 cases e2
 rw[c]at c2
 injection c2 with z
 exact absurd z (by decide)
mutual
theorem Rep.inj (I:Inv X pins σ H s):∀ {d e:Dt}{v:V},Rep X.K N H d v->Rep X.K N' H e v->d=e
 | .az,.az,_,_,_=>rfl
 | .az,.bl _,_,h,k=>by unfold Rep at h k;rw[h]at k;cases k
 | .az,.int _,_,h,k=>by unfold Rep at h k;rw[h]at k;cases k
 | .az,.str _,_,h,k=>by unfold Rep at h k;rw[h]at k;cases k
 | .az,.tup _,_,h,k=>by unfold Rep at h k;obtain⟨_,_,e,_⟩:=k;rw[h]at e;cases e
 | .az,.lst _,_,h,k=>by unfold Rep at h k;obtain⟨_,_,e,_⟩:=k;rw[h]at e;cases e
 | .bl _,.az,_,h,k=>by unfold Rep at h k;rw[h]at k;cases k
 | .bl x,.bl y,_,h,k=>by unfold Rep at h k;rw[h]at k;cases k;rfl
 | .bl _,.int _,_,h,k=>by unfold Rep at h k;rw[h]at k;cases k
 | .bl _,.str _,_,h,k=>by unfold Rep at h k;rw[h]at k;cases k
 | .bl _,.tup _,_,h,k=>by unfold Rep at h k;obtain⟨_,_,e,_⟩:=k;rw[h]at e;cases e
 | .bl _,.lst _,_,h,k=>by unfold Rep at h k;obtain⟨_,_,e,_⟩:=k;rw[h]at e;cases e
 | .int _,.az,_,h,k=>by unfold Rep at h k;rw[h]at k;cases k
 | .int _,.bl _,_,h,k=>by unfold Rep at h k;rw[h]at k;cases k
 | .int x,.int y,_,h,k=>by unfold Rep at h k;rw[h]at k;cases k;rfl
 | .int _,.str _,_,h,k=>by unfold Rep at h k;rw[h]at k;cases k
 | .int _,.tup _,_,h,k=>by unfold Rep at h k;obtain⟨_,_,e,_⟩:=k;rw[h]at e;cases e
 | .int _,.lst _,_,h,k=>by unfold Rep at h k;obtain⟨_,_,e,_⟩:=k;rw[h]at e;cases e
 | .str _,.az,_,h,k=>by unfold Rep at h k;rw[h]at k;cases k
 | .str _,.bl _,_,h,k=>by unfold Rep at h k;rw[h]at k;cases k
 | .str _,.int _,_,h,k=>by unfold Rep at h k;rw[h]at k;cases k
 | .str x,.str y,_,h,k=>by unfold Rep at h k;rw[h]at k;cases k;rfl
 | .str _,.tup _,_,h,k=>by unfold Rep at h k;obtain⟨_,_,e,_⟩:=k;rw[h]at e;cases e
 | .str _,.lst _,_,h,k=>by unfold Rep at h k;obtain⟨_,_,e,_⟩:=k;rw[h]at e;cases e
 | .tup _,.az,_,h,k=>by unfold Rep at h k;obtain⟨_,_,e,_⟩:=h;rw[k]at e;cases e
 | .tup _,.bl _,_,h,k=>by unfold Rep at h k;obtain⟨_,_,e,_⟩:=h;rw[k]at e;cases e
 | .tup _,.int _,_,h,k=>by unfold Rep at h k;obtain⟨_,_,e,_⟩:=h;rw[k]at e;cases e
 | .tup _,.str _,_,h,k=>by unfold Rep at h k;obtain⟨_,_,e,_⟩:=h;rw[k]at e;cases e
 | .tup l,.tup q,_,h,k=>by
  unfold Rep at h k
  obtain⟨a,xs,rfl,_,h1,h2⟩:=h
  obtain⟨b,ys,e,_,k1,k2⟩:=k
  cases e
  have:=I.mU h1 k1
  subst this
  rw[di.inj I h2 k2]
 | .tup _,.lst _,_,h,k=>by unfold Rep at h k;obtain⟨_,_,rfl,_,h1,_⟩:=h;obtain⟨_,_,e,_,k1,_⟩:=k;cases e;exact(uA I k1 h1).elim
 | .lst _,.az,_,h,k=>by unfold Rep at h k;obtain⟨_,_,e,_⟩:=h;rw[k]at e;cases e
 | .lst _,.bl _,_,h,k=>by unfold Rep at h k;obtain⟨_,_,e,_⟩:=h;rw[k]at e;cases e
 | .lst _,.int _,_,h,k=>by unfold Rep at h k;obtain⟨_,_,e,_⟩:=h;rw[k]at e;cases e
 | .lst _,.str _,_,h,k=>by unfold Rep at h k;obtain⟨_,_,e,_⟩:=h;rw[k]at e;cases e
 | .lst _,.tup _,_,h,k=>by unfold Rep at h k;obtain⟨_,_,rfl,_,h1,_⟩:=h;obtain⟨_,_,e,_,k1,_⟩:=k;cases e;exact(uA I h1 k1).elim
 | .lst l,.lst q,_,h,k=>by
  unfold Rep at h k
  obtain⟨a,xs,rfl,_,h1,h2⟩:=h
  obtain⟨b,ys,e,_,k1,k2⟩:=k
  cases e
  have:=I.pU h1 k1
  subst this
  rw[di.inj I h2 k2]
theorem di.inj (I:Inv X pins σ H s):∀ {l q:List Dt}{xs:List V},di X.K N H l xs->di X.K N' H q xs->l=q
 | [],[],_,_,_=>rfl
 | [],_ :: _,_,h,k=>by unfold di at h k;obtain⟨_,_,e,_⟩:=k;rw[h]at e;cases e
 | _ :: _,[],_,h,k=>by unfold di at h k;obtain⟨_,_,e,_⟩:=h;rw[k]at e;cases e
 | a :: r,b :: q,xs,h,k=>by
  unfold di at h k
  obtain⟨x,ys,rfl,h1,h2⟩:=h
  obtain⟨y,zs,e,k1,k2⟩:=k
  cases e
  rw[Rep.inj I h1 k1,di.inj I h2 k2]
end
mutual
theorem qd:∀ d:Dt,dg d d=true
 | .az=>by simp[dg]
 | .bl _=>by simp[dg]
 | .int _=>by simp[dg]
 | .str _=>by simp[dg]
 | .tup l=>by simp only[dg];exact nH l
 | .lst l=>by simp only[dg];exact nH l
theorem nH:∀ l:List Dt,g6 l l=true
 | []=>by simp[g6]
 | d :: r=>by simp only[g6,qd d,nH r,Bool.and_self]
end
theorem iX {A:Around}{k:Nat}(ih:∀ (d e:Dt){v w:V}{u z:Value},d.dep<=k->Rep X.K N H d v->Rep X.K N' H e w->RelV v u->RelV w z->SeqAt.EqAt A s u z (dg d e))
  {l q:List Dt}{xs ys:List V}{its df:List Value}(hd:dh l<=k) (h:di X.K N H l xs) (h':di X.K N' H q ys) (r:Vals xs its) (r':Vals ys df) :
  ∀ j (h1:j < its.toArray.size) (h2:j < df.toArray.size),SeqAt.EqAt A s its.toArray[j] df.toArray[j] (match l[j]?,q[j]? with|some a,some b=>dg a b|_,_=>true):=by
 intro j h1 h2
 have n1:l.length=its.length:=h.length.trans r.length
 have n2:q.length=df.length:=h'.length.trans r'.length
 have j1:j < l.length:=by rw[n1];simpa using h1
 have j2:j < q.length:=by rw[n2];simpa using h2
 obtain⟨x,ex,rx⟩:=h.get (List.getElem?_eq_getElem j1)
 obtain⟨y,ey,ry⟩:=h'.get (List.getElem?_eq_getElem j2)
 obtain⟨u,eu,ru⟩:=r.get ex
 obtain⟨z,ez,rz⟩:=r'.get ey
 rw[List.getElem?_eq_getElem j1,List.getElem?_eq_getElem j2]
 have e1:its.toArray[j]=u:=by
  have:=List.getElem?_eq_some_iff.mp eu
  obtain⟨_,e⟩:=this
  simpa using e
 have e2:df.toArray[j]=z:=by
  have:=List.getElem?_eq_some_iff.mp ez
  obtain⟨_,e⟩:=this
  simpa using e
 rw[e1,e2]
 exact ih _ _ (Nat.le_trans (u5 (List.getElem?_eq_getElem j1)) hd) rx ry ru rz
theorem lR {l q:List Dt}{xs ys:List V}{its df:List Value}(h:di X.K N H l xs)(h':di X.K N' H q ys)(r:Vals xs its)(r':Vals ys df) :
  ((List.range (min its.toArray.size df.toArray.size)).all (λ j=>match l[j]?,q[j]? with|some a,some b=>dg a b|_,_=>true) && its.toArray.size == df.toArray.size)=g6 l q:=by
 have n1:l.length=its.toArray.size:=by simpa using h.length.trans r.length
 have n2:q.length=df.toArray.size:=by simpa using h'.length.trans r'.length
 rw[<-n1,<-n2]
 by_cases hn:l.length=q.length
 ·rw[g0 hn,hn,Nat.min_self]
  simp
 ·rw[kg hn]
  have:(l.length == q.length)=false:=by simpa using hn
  rw[this,Bool.and_false]
theorem tD (I:Inv X pins σ H s):∀ (k:Nat) (A:Around),A.units+k < cLine->∀ (d e:Dt) {v w:V}{u z:Value},d.dep<=k->Rep X.K N H d v->Rep X.K N' H e w->RelV v u->RelV w z->SeqAt.EqAt A s u z (dg d e):=by
 intro k
 induction k with
 | zero=>
  intro A hA d e v w u z hd h h' r r'
  have hu:A.units < cLine:=by omega
  cases d with
  | tup l=>exact absurd hd (by simp[Dt.dep])
  | lst l=>exact absurd hd (by simp[Dt.dep])
  | az=>
   unfold Rep at h
   subst h
   cases e with
   | az=>
    unfold Rep at h'
    subst h'
    have:=aW (A:=A) (s:=s) r r' rfl rfl
    simpa[dg,iG]using this
   | bl y=>
    unfold Rep at h'
    subst h'
    have:=aW (A:=A) (s:=s) r r' rfl rfl
    simpa[dg,iG]using this
   | int y=>
    unfold Rep at h'
    subst h'
    have:=aW (A:=A) (s:=s) r r' rfl rfl
    simpa[dg,iG]using this
   | str y=>
    unfold Rep at h'
    subst h'
    have:=aW (A:=A) (s:=s) r r' rfl rfl
    simpa[dg,iG]using this
   | tup y=>
    unfold Rep at h'
    obtain⟨a,xs,rfl,_,q1,_⟩:=h'
    cases r'
    obtain⟨its,_,p,_⟩:=I.tuple q1
    cases r
    simp only[dg]
    exact SeqAt.EqAt.none_tuple p hu
   | lst y=>
    unfold Rep at h'
    obtain⟨a,xs,rfl,_,q1,_⟩:=h'
    cases r'
    obtain⟨its,_,p,_⟩:=I.list q1
    cases r
    simp only[dg]
    exact SeqAt.EqAt.none_list p.isList hu
  | bl x=>
   unfold Rep at h
   subst h
   cases e with
   | az=>
    unfold Rep at h'
    subst h'
    have:=aW (A:=A) (s:=s) r r' rfl rfl
    simpa[dg,iG]using this
   | bl y=>
    unfold Rep at h'
    subst h'
    have:=aW (A:=A) (s:=s) r r' rfl rfl
    simpa[dg,iG]using this
   | int y=>
    unfold Rep at h'
    subst h'
    have:=aW (A:=A) (s:=s) r r' rfl rfl
    simpa[dg,iG]using this
   | str y=>
    unfold Rep at h'
    subst h'
    have:=aW (A:=A) (s:=s) r r' rfl rfl
    simpa[dg,iG]using this
   | tup y=>
    unfold Rep at h'
    obtain⟨a,xs,rfl,_,q1,_⟩:=h'
    cases r'
    obtain⟨its,_,p,_⟩:=I.tuple q1
    cases r
    simp only[dg]
    exact SeqAt.EqAt.bool_tuple x p hu
   | lst y=>
    unfold Rep at h'
    obtain⟨a,xs,rfl,_,q1,_⟩:=h'
    cases r'
    obtain⟨its,_,p,_⟩:=I.list q1
    cases r
    simp only[dg]
    exact SeqAt.EqAt.bool_list x p.isList hu
  | int x=>
   unfold Rep at h
   subst h
   cases e with
   | az=>
    unfold Rep at h'
    subst h'
    have:=aW (A:=A) (s:=s) r r' rfl rfl
    simpa[dg,iG]using this
   | bl y=>
    unfold Rep at h'
    subst h'
    have:=aW (A:=A) (s:=s) r r' rfl rfl
    simpa[dg,iG]using this
   | int y=>
    unfold Rep at h'
    subst h'
    have:=aW (A:=A) (s:=s) r r' rfl rfl
    simpa[dg,iG]using this
   | str y=>
    unfold Rep at h'
    subst h'
    have:=aW (A:=A) (s:=s) r r' rfl rfl
    simpa[dg,iG]using this
   | tup y=>
    unfold Rep at h'
    obtain⟨a,xs,rfl,_,q1,_⟩:=h'
    cases r'
    obtain⟨its,_,p,_⟩:=I.tuple q1
    obtain⟨t,rfl⟩:=r
    simp only[dg]
    exact SeqAt.EqAt.int_tuple x t p hu
   | lst y=>
    unfold Rep at h'
    obtain⟨a,xs,rfl,_,q1,_⟩:=h'
    cases r'
    obtain⟨its,_,p,_⟩:=I.list q1
    obtain⟨t,rfl⟩:=r
    simp only[dg]
    exact SeqAt.EqAt.int_list x t p.isList hu
  | str x=>
   unfold Rep at h
   subst h
   cases e with
   | az=>
    unfold Rep at h'
    subst h'
    have:=aW (A:=A) (s:=s) r r' rfl rfl
    simpa[dg,iG]using this
   | bl y=>
    unfold Rep at h'
    subst h'
    have:=aW (A:=A) (s:=s) r r' rfl rfl
    simpa[dg,iG]using this
   | int y=>
    unfold Rep at h'
    subst h'
    have:=aW (A:=A) (s:=s) r r' rfl rfl
    simpa[dg,iG]using this
   | str y=>
    unfold Rep at h'
    subst h'
    have:=aW (A:=A) (s:=s) r r' rfl rfl
    simpa[dg,iG]using this
   | tup y=>
    unfold Rep at h'
    obtain⟨a,xs,rfl,_,q1,_⟩:=h'
    cases r'
    obtain⟨its,_,p,_⟩:=I.tuple q1
    obtain⟨t,rfl⟩:=r
    simp only[dg]
    exact SeqAt.EqAt.str_tuple x t p hu
   | lst y=>
    unfold Rep at h'
    obtain⟨a,xs,rfl,_,q1,_⟩:=h'
    cases r'
    obtain⟨its,_,p,_⟩:=I.list q1
    obtain⟨t,rfl⟩:=r
    simp only[dg]
    exact SeqAt.EqAt.str_list x t p.isList hu
 | succ k ih=>
  intro A hA d e v w u z hd h h' r r'
  have hu:A.units < cLine:=by omega
  have Q7:A.in1.units+k < cLine:=by have:A.in1.units=A.units+1:=rfl;omega
  cases d with
  | az=>
   unfold Rep at h
   subst h
   cases e with
   | az=>
    unfold Rep at h'
    subst h'
    have:=aW (A:=A) (s:=s) r r' rfl rfl
    simpa[dg,iG]using this
   | bl y=>
    unfold Rep at h'
    subst h'
    have:=aW (A:=A) (s:=s) r r' rfl rfl
    simpa[dg,iG]using this
   | int y=>
    unfold Rep at h'
    subst h'
    have:=aW (A:=A) (s:=s) r r' rfl rfl
    simpa[dg,iG]using this
   | str y=>
    unfold Rep at h'
    subst h'
    have:=aW (A:=A) (s:=s) r r' rfl rfl
    simpa[dg,iG]using this
   | tup y=>
    unfold Rep at h'
    obtain⟨a,xs,rfl,_,q1,_⟩:=h'
    cases r'
    obtain⟨its,_,p,_⟩:=I.tuple q1
    cases r
    simp only[dg]
    exact SeqAt.EqAt.none_tuple p hu
   | lst y=>
    unfold Rep at h'
    obtain⟨a,xs,rfl,_,q1,_⟩:=h'
    cases r'
    obtain⟨its,_,p,_⟩:=I.list q1
    cases r
    simp only[dg]
    exact SeqAt.EqAt.none_list p.isList hu
  | bl x=>
   unfold Rep at h
   subst h
   cases e with
   | az=>
    unfold Rep at h'
    subst h'
    have:=aW (A:=A) (s:=s) r r' rfl rfl
    simpa[dg,iG]using this
   | bl y=>
    unfold Rep at h'
    subst h'
    have:=aW (A:=A) (s:=s) r r' rfl rfl
    simpa[dg,iG]using this
   | int y=>
    unfold Rep at h'
    subst h'
    have:=aW (A:=A) (s:=s) r r' rfl rfl
    simpa[dg,iG]using this
   | str y=>
    unfold Rep at h'
    subst h'
    have:=aW (A:=A) (s:=s) r r' rfl rfl
    simpa[dg,iG]using this
   | tup y=>
    unfold Rep at h'
    obtain⟨a,xs,rfl,_,q1,_⟩:=h'
    cases r'
    obtain⟨its,_,p,_⟩:=I.tuple q1
    cases r
    simp only[dg]
    exact SeqAt.EqAt.bool_tuple x p hu
   | lst y=>
    unfold Rep at h'
    obtain⟨a,xs,rfl,_,q1,_⟩:=h'
    cases r'
    obtain⟨its,_,p,_⟩:=I.list q1
    cases r
    simp only[dg]
    exact SeqAt.EqAt.bool_list x p.isList hu
  | int x=>
   unfold Rep at h
   subst h
   cases e with
   | az=>
    unfold Rep at h'
    subst h'
    have:=aW (A:=A) (s:=s) r r' rfl rfl
    simpa[dg,iG]using this
   | bl y=>
    unfold Rep at h'
    subst h'
    have:=aW (A:=A) (s:=s) r r' rfl rfl
    simpa[dg,iG]using this
   | int y=>
    unfold Rep at h'
    subst h'
    have:=aW (A:=A) (s:=s) r r' rfl rfl
    simpa[dg,iG]using this
   | str y=>
    unfold Rep at h'
    subst h'
    have:=aW (A:=A) (s:=s) r r' rfl rfl
    simpa[dg,iG]using this
   | tup y=>
    unfold Rep at h'
    obtain⟨a,xs,rfl,_,q1,_⟩:=h'
    cases r'
    obtain⟨its,_,p,_⟩:=I.tuple q1
    obtain⟨t,rfl⟩:=r
    simp only[dg]
    exact SeqAt.EqAt.int_tuple x t p hu
   | lst y=>
    unfold Rep at h'
    obtain⟨a,xs,rfl,_,q1,_⟩:=h'
    cases r'
    obtain⟨its,_,p,_⟩:=I.list q1
    obtain⟨t,rfl⟩:=r
    simp only[dg]
    exact SeqAt.EqAt.int_list x t p.isList hu
  | str x=>
   unfold Rep at h
   subst h
   cases e with
   | az=>
    unfold Rep at h'
    subst h'
    have:=aW (A:=A) (s:=s) r r' rfl rfl
    simpa[dg,iG]using this
   | bl y=>
    unfold Rep at h'
    subst h'
    have:=aW (A:=A) (s:=s) r r' rfl rfl
    simpa[dg,iG]using this
   | int y=>
    unfold Rep at h'
    subst h'
    have:=aW (A:=A) (s:=s) r r' rfl rfl
    simpa[dg,iG]using this
   | str y=>
    unfold Rep at h'
    subst h'
    have:=aW (A:=A) (s:=s) r r' rfl rfl
    simpa[dg,iG]using this
   | tup y=>
    unfold Rep at h'
    obtain⟨a,xs,rfl,_,q1,_⟩:=h'
    cases r'
    obtain⟨its,_,p,_⟩:=I.tuple q1
    obtain⟨t,rfl⟩:=r
    simp only[dg]
    exact SeqAt.EqAt.str_tuple x t p hu
   | lst y=>
    unfold Rep at h'
    obtain⟨a,xs,rfl,_,q1,_⟩:=h'
    cases r'
    obtain⟨its,_,p,_⟩:=I.list q1
    obtain⟨t,rfl⟩:=r
    simp only[dg]
    exact SeqAt.EqAt.str_list x t p.isList hu
  | tup l=>
   have h0:=h
   unfold Rep at h
   obtain⟨a,xs,rfl,na,q1,q2⟩:=h
   cases r
   obtain⟨its,r1,p1,_⟩:=I.tuple q1
   have I_:dh l<=k:=by simp only[Dt.dep]at hd;omega
   cases e with
   | az=>
    unfold Rep at h'
    subst h'
    cases r'
    simp only[dg]
    exact SeqAt.EqAt.tuple_none p1 hu
   | bl y=>
    unfold Rep at h'
    subst h'
    cases r'
    simp only[dg]
    exact SeqAt.EqAt.tuple_bool y p1 hu
   | int y=>
    unfold Rep at h'
    subst h'
    obtain⟨t,rfl⟩:=r'
    simp only[dg]
    exact SeqAt.EqAt.tuple_int y t p1 hu
   | str y=>
    unfold Rep at h'
    subst h'
    obtain⟨t,rfl⟩:=r'
    simp only[dg]
    exact SeqAt.EqAt.tuple_str y t p1 hu
   | tup q=>
    have Mc:=h'
    unfold Rep at h'
    obtain⟨b,ys,rfl,nb,k1,k2⟩:=h'
    cases r'
    obtain⟨df,r2,p2,_⟩:=I.tuple k1
    by_cases CH:a=b
    ·subst CH
     have:=Rep.inj I h0 Mc
     rw[<-this,qd]
     exact SeqAt.EqAt.same _
    ·refine SeqAt.EqAt.of_refs CH ?_
     simp only[dg]
     have:=SeqAt.RcAt.tuples (A:=A) (s:=s) p1 p2 hu (iX (A:=A.in1) (λ d e=>ih A.in1 Q7 d e) I_ q2 k2 r1 r2)
     rw[lR q2 k2 r1 r2]at this
     exact this
   | lst q=>
    have Mc:=h'
    unfold Rep at h'
    obtain⟨b,ys,rfl,nb,k1,k2⟩:=h'
    cases r'
    obtain⟨df,r2,p2,_⟩:=I.list k1
    simp only[dg]
    exact SeqAt.EqAt.tuple_list p1 p2.isList hu
  | lst l=>
   have h0:=h
   unfold Rep at h
   obtain⟨a,xs,rfl,na,q1,q2⟩:=h
   cases r
   obtain⟨its,r1,p1,_⟩:=I.list q1
   have I_:dh l<=k:=by simp only[Dt.dep]at hd;omega
   cases e with
   | az=>
    unfold Rep at h'
    subst h'
    cases r'
    simp only[dg]
    exact SeqAt.EqAt.list_none p1.isList hu
   | bl y=>
    unfold Rep at h'
    subst h'
    cases r'
    simp only[dg]
    exact SeqAt.EqAt.list_bool y p1.isList hu
   | int y=>
    unfold Rep at h'
    subst h'
    obtain⟨t,rfl⟩:=r'
    simp only[dg]
    exact SeqAt.EqAt.list_int y t p1.isList hu
   | str y=>
    unfold Rep at h'
    subst h'
    obtain⟨t,rfl⟩:=r'
    simp only[dg]
    exact SeqAt.EqAt.list_str y t p1.isList hu
   | tup q=>
    have Mc:=h'
    unfold Rep at h'
    obtain⟨b,ys,rfl,nb,k1,k2⟩:=h'
    cases r'
    obtain⟨df,r2,p2,_⟩:=I.tuple k1
    simp only[dg]
    exact SeqAt.EqAt.list_tuple p1.isList p2 hu
   | lst q=>
    have Mc:=h'
    unfold Rep at h'
    obtain⟨b,ys,rfl,nb,k1,k2⟩:=h'
    cases r'
    obtain⟨df,r2,p2,_⟩:=I.list k1
    by_cases CH:a=b
    ·subst CH
     have:=Rep.inj I h0 Mc
     rw[<-this,qd]
     exact SeqAt.EqAt.same _
    ·refine SeqAt.EqAt.of_refs CH ?_
     simp only[dg]
     have n1:l.length=its.toArray.size:=by simpa using q2.length.trans r1.length
     have n2:q.length=df.toArray.size:=by simpa using k2.length.trans r2.length
     by_cases hn:l.length=q.length
     ·have:=SeqAt.RcAt.lists (A:=A) (s:=s) p1.isList p2.isList (by rw[<-n1,<-n2];exact hn) hu (iX (A:=A.in1) (λ d e=>ih A.in1 Q7 d e) I_ q2 k2 r1 r2)
      rw[<-n1,<-g0 hn]at this
      exact this
     ·rw[kg hn]
      refine SeqAt.RcAt.lists_lengths p1.isList p2.isList ?_ hu
      rw[<-n1,<-n2]
      simpa using hn
def Kr (K:PySem.W.Frag)(neg:Bool):R2:=λ x y H Q=>∃ (N N':Addr->Prop) (l q:List Dt) (c:Bool),(Rep K N H (if c then .tup l else .lst l) x/\Rep K N' H (if c then .tup q else .lst q) y)/\dh l<=20/\Q (.bl (if neg then !g6 l q else g6 l q)) H
theorem HB (hu:X.A.units+30 < cLine):hU X (compareOp .Eq) (Kr X.K false):=by
 intro pins s σ H x y v u Q I rx ry h
 obtain⟨N,N',l,q,c,⟨h1,h2⟩,hd,hq⟩:=h
 have CB:X.A.units < cLine:=by omega
 have uN:X.A.in1.units+20 < cLine:=by have:X.A.in1.units=X.A.units+1:=rfl;omega
 cases c with
 | true=>
  simp only[if_true]at h1 h2
  unfold Rep at h1 h2
  obtain⟨a,xs,rfl,_,q1,q2⟩:=h1
  obtain⟨b,ys,rfl,_,k1,k2⟩:=h2
  cases rx
  cases ry
  obtain⟨its,r1,p1,_⟩:=I.tuple q1
  obtain⟨df,r2,p2,_⟩:=I.tuple k1
  have:=SeqAt.RcAt.tuples (A:=X.A) (s:=s) p1 p2 CB (iX (A:=X.A.in1) (λ d e=>tD I 20 X.A.in1 uN d e) hd q2 k2 r1 r2)
  rw[lR q2 k2 r1 r2]at this
  exact this X.prog X.w _ _ ⟨.bl _,H,I,rfl,hq⟩
 | false=>
  simp only[Bool.false_eq_true,if_false]at h1 h2
  unfold Rep at h1 h2
  obtain⟨a,xs,rfl,_,q1,q2⟩:=h1
  obtain⟨b,ys,rfl,_,k1,k2⟩:=h2
  cases rx
  cases ry
  obtain⟨its,r1,p1,_⟩:=I.list q1
  obtain⟨df,r2,p2,_⟩:=I.list k1
  have n1:l.length=its.toArray.size:=by simpa using q2.length.trans r1.length
  have n2:q.length=df.toArray.size:=by simpa using k2.length.trans r2.length
  by_cases hn:l.length=q.length
  ·have:=SeqAt.RcAt.lists (A:=X.A) (s:=s) p1.isList p2.isList (by rw[<-n1,<-n2];exact hn) CB (iX (A:=X.A.in1) (λ d e=>tD I 20 X.A.in1 uN d e) hd q2 k2 r1 r2)
   rw[<-n1,<-g0 hn]at this
   exact this X.prog X.w _ _ ⟨.bl _,H,I,rfl,hq⟩
  ·simp only[kg hn]at hq
   exact SeqAt.RcAt.lists_lengths p1.isList p2.isList (by rw[<-n1,<-n2];simpa using hn) CB X.prog X.w _ _ ⟨.bl _,H,I,rfl,hq⟩
theorem Hz (hu:X.A.units+30 < cLine):hU X (compareOp .NotEq) (Kr X.K true):=by
 intro pins s σ H x y v u Q I rx ry h
 obtain⟨N,N',l,q,c,⟨h1,h2⟩,hd,hq⟩:=h
 have CB:X.A.units < cLine:=by omega
 have uN:X.A.in1.units+20 < cLine:=by have:X.A.in1.units=X.A.units+1:=rfl;omega
 cases c with
 | true=>
  simp only[if_true]at h1 h2
  unfold Rep at h1 h2
  obtain⟨a,xs,rfl,_,q1,q2⟩:=h1
  obtain⟨b,ys,rfl,_,k1,k2⟩:=h2
  cases rx
  cases ry
  obtain⟨its,r1,p1,_⟩:=I.tuple q1
  obtain⟨df,r2,p2,_⟩:=I.tuple k1
  have:=SeqAt.RcNeAt.tuples (A:=X.A) (s:=s) p1 p2 CB (iX (A:=X.A.in1) (λ d e=>tD I 20 X.A.in1 uN d e) hd q2 k2 r1 r2)
  rw[lR q2 k2 r1 r2]at this
  exact this X.prog X.w _ _ ⟨.bl _,H,I,rfl,hq⟩
 | false=>
  simp only[Bool.false_eq_true,if_false]at h1 h2
  unfold Rep at h1 h2
  obtain⟨a,xs,rfl,_,q1,q2⟩:=h1
  obtain⟨b,ys,rfl,_,k1,k2⟩:=h2
  cases rx
  cases ry
  obtain⟨its,r1,p1,_⟩:=I.list q1
  obtain⟨df,r2,p2,_⟩:=I.list k1
  have n1:l.length=its.toArray.size:=by simpa using q2.length.trans r1.length
  have n2:q.length=df.toArray.size:=by simpa using k2.length.trans r2.length
  by_cases hn:l.length=q.length
  ·have:=SeqAt.RcNeAt.lists (A:=X.A) (s:=s) p1.isList p2.isList (by rw[<-n1,<-n2];exact hn) CB (iX (A:=X.A.in1) (λ d e=>tD I 20 X.A.in1 uN d e) hd q2 k2 r1 r2)
   rw[<-n1,<-g0 hn]at this
   exact this X.prog X.w _ _ ⟨.bl _,H,I,rfl,hq⟩
  ·simp only[kg hn]at hq
   exact SeqAt.RcNeAt.lists_lengths p1.isList p2.isList (by rw[<-n1,<-n2];simpa using hn) CB X.prog X.w _ _ ⟨.bl _,H,I,rfl,hq⟩
end
end L2
namespace L2
open PySem PySem.Spec PyProof.Rows
structure Wk (J:It)(xs:List V)(ok:Hp->Prop):Prop where
 go:∀ i H,ok H->i < xs.length->J.go i H
 stop:∀ i H,ok H->i=xs.length->J.stop i H
 CQ:∀ i H x H',ok H->J.CQ i H x H'->H'=H/\xs[i]? = some x
theorem jb.any {X:Cx}{scope:Scope}:∀ {l:List (Str × Option Nat)},jb X scope l->∀ {x:Str},(l.any λ p=>p.1 == x && p.2.isSome)=true->X.env.kindOf x=some .cell∨X.env.kindOf x=some .free
 | [],_,x,e=>by simp at e
 | (y,none) :: r,h,x,e=>jb.any (l:=r) h (by simpa using e)
 | (y,some k) :: r,h,x,e=>by
  rw[List.any_cons,Bool.or_eq_true]at e
  rcases e with e|e
  ·have:y=x:=by simpa using e
   subst this
   exact h.1.2.2
  ·exact jb.any (l:=r) h.2 e
theorem eG.of {X:Cx}{scope:Scope}{l:List (Str × Option Nat)}(hk:scope.kind=.function)(hc:∀ y∈scope.names,y.2=.cell->scope.names.lookup y.1=some .cell)(hn:∀ y∈scope.names,y.2=.local->scope.names.lookup y.1=some .local)
  (hf:∀ y∈scope.names,y.2=.free->(l.any λ p=>p.1 == y.1 && p.2.isSome)=true) (hs:jb X scope l):eG X scope l:=⟨hk,hc,hn,λ y hy R6=>hs.any (hf y hy R6),hs⟩
theorem qD {i:Int}(h:eJ 64 i):eJ 9000 i:=h.mono (by decide)
end L2
namespace L2
open PySem PySem.Spec PyProof.Rows
def xK (c:Bool)(h:Heap)(i l:Addr)(k:Nat):Prop:=if c=true then h.IsTupleIter i l k else h.IsListIter i l k
def oJ (c:Bool)(h:Heap)(l:Addr)(xs:Array Value):Prop:=if c=true then h.IsTuple l xs else h.IsList l xs
theorem xK.at {c:Bool}{h h':Heap}{i l:Addr}{k:Nat}(x:xK c h i l k)(e:∀ o,h.get? i=some o->h'.get? i=some o):xK c h' i l k:=by
 cases c with
 | true=>obtain⟨o,ho,r⟩:=(show h.IsTupleIter i l k from x);exact(show h'.IsTupleIter i l k from⟨o,e o ho,r⟩)
 | false=>obtain⟨o,ho,r⟩:=(show h.IsListIter i l k from x);exact(show h'.IsListIter i l k from⟨o,e o ho,r⟩)
theorem oJ.at {c:Bool}{h h':Heap}{l:Addr}{xs:Array Value}(x:oJ c h l xs)(e:∀ o,h.get? l=some o->h'.get? l=some o):oJ c h' l xs:=by
 cases c with
 | true=>obtain⟨o,ho,r⟩:=(show h.IsTuple l xs from x);exact(show h'.IsTuple l xs from⟨o,e o ho,r⟩)
 | false=>obtain⟨o,ho,r⟩:=(show h.IsList l xs from x);exact(show h'.IsList l xs from⟨o,e o ho,r⟩)
theorem xK.obj {c:Bool}{h:Heap}{i l:Addr}{k:Nat}(x:xK c h i l k):∃ o,h.get? i=some o/\∀ v,o.data≠.cell v:=by
 cases c with
 | true=>obtain⟨o,ho,_,d⟩:=(show h.IsTupleIter i l k from x);exact⟨o,ho,λ v z=>by rw[d]at z;cases z⟩
 | false=>obtain⟨o,ho,_,d⟩:=(show h.IsListIter i l k from x);exact⟨o,ho,λ v z=>by rw[d]at z;cases z⟩
section
variable {prog:Program}{w:World}{A:Around}{E:Value->Shared->Prop}{s:Shared}
theorem pN {c:Bool}{i l:Addr}{k:Nat}{xs:Array Value}{v:Value}{Q:Value->Shared->Prop}(hi:xK c s.heap i l k)(hl:oJ c s.heap l xs)(hx:xs[k]? = some v)
  (hQ:∀ h',xK c h' i l (k+1)->Heap.SameBut i s.heap h'->Q v { s with heap:=h' }):wpAny (model prog w) A (Builtin.SmallTypes.nextOf (.ref i)) Q E s:=by
 cases c with
 | false=>exact wpAny_nextOf_list_item hi hl hx hQ
 | true=>
  have yR:s.heap.IsTupleIter i l k:=hi
  obtain⟨o1,g1,g2,g3⟩:=id yR
  obtain⟨o2,f1,_,n2,f3⟩:=(show s.heap.IsTuple l xs from hl)
  unfold Builtin.SmallTypes.nextOf
  refine wpAny_bind (wpAny_callSpecial?_slot (name:=Str.ofString "__next__") yR.typeIs F.slot_tuple_iterator_next (wpAny_call_entry F.slot_tuple_iterator_next yR.typeIs F.entry_tuple_iterator_next ?_ (F.args_tuple_iterator_next_1 _)))
  show wpAny _ _ (field (.ref i) 0 >>= _) _ _ s
  refine wpAny_bind (wpAny_field g1 g3 (x:=.ref l) rfl ?_)
  show wpAny _ _ (if (Value.ref l == Value.none)=true then _ else _) _ _ s
  rw[if_neg (show ¬ ((Value.ref l == Value.none)=true) from Bool.false_ne_true)]
  show wpAny _ _ (field (.ref i) 1 >>= _) _ _ s
  refine wpAny_bind (wpAny_field g1 g3 (x:=.int k 0) rfl ?_)
  show wpAny _ _ (seqItems? (.ref l) >>= _) _ _ s
  refine wpAny_bind (wpAny_seqItems f1 f3 ?_)
  simp only[Int.toNat_natCast,hx]
  refine wpAny_bind (wpAny_setField g1 g3 (by simp) (wpAny_pure ⟨v,rfl,wpAny_pure (hQ _ (show Heap.IsTupleIter _ i l (k+1) from ?_) (Heap.SameBut.update ..))⟩))
  refine⟨_,Heap.get?_update_self _ g1 (Obj.isFreed_of_fields (Obj.data_mapFields g3 _)),(Obj.cls_mapFields ..).trans g2,?_⟩
  rw[Obj.data_mapFields g3]
  simp[rawInt]
theorem wU {c:Bool}{i l:Addr}{k:Nat}{xs:Array Value}{Q:Value->Shared->Prop}(hh:A.handled=none)(hi:xK c s.heap i l k)(hl:oJ c s.heap l xs)(hx:xs[k]? = none)
  (hE:∀ h' e,Heap.ExtBut i s.heap h'->(∃ o,h'.get? e=some o/\o.cls=.type "StopIteration")->E (.ref e) { s with heap:=h' }):wpAny (model prog w) A (Builtin.SmallTypes.nextOf (.ref i)) Q E s:=by
 cases c with
 | false=>exact wpAny_nextOf_list_end hh hi hl hx hE
 | true=>
  have yR:s.heap.IsTupleIter i l k:=hi
  obtain⟨o1,g1,g2,g3⟩:=id yR
  obtain⟨o2,f1,_,n2,f3⟩:=(show s.heap.IsTuple l xs from hl)
  unfold Builtin.SmallTypes.nextOf
  refine wpAny_bind (wpAny_callSpecial?_slot (name:=Str.ofString "__next__") yR.typeIs F.slot_tuple_iterator_next (wpAny_call_entry F.slot_tuple_iterator_next yR.typeIs F.entry_tuple_iterator_next ?_ (F.args_tuple_iterator_next_1 _)))
  show wpAny _ _ (field (.ref i) 0 >>= _) _ _ s
  refine wpAny_bind (wpAny_field g1 g3 (x:=.ref l) rfl ?_)
  show wpAny _ _ (if (Value.ref l == Value.none)=true then _ else _) _ _ s
  rw[if_neg (show ¬ ((Value.ref l == Value.none)=true) from Bool.false_ne_true)]
  show wpAny _ _ (field (.ref i) 1 >>= _) _ _ s
  refine wpAny_bind (wpAny_field g1 g3 (x:=.int k 0) rfl ?_)
  show wpAny _ _ (seqItems? (.ref l) >>= _) _ _ s
  refine wpAny_bind (wpAny_seqItems f1 f3 ?_)
  simp only[Int.toNat_natCast,hx]
  refine wpAny_bind (wpAny_rule (wpAny_bind (wpAny_setField g1 g3 (by simp) ?_)))
  show wpAny _ _ (newExc (.type "StopIteration") [] >>= _) _ _ _
  refine wpAny_bind ?_
  simp only[newExc,newTuple]
  refine wpAny_bind (wpAny_newObj_type ?_ (by size_fits))
  refine wpAny_bind (m:=firstArgMember _ _) (wpAny_of_eq (a:=Value.none) (by first|rfl|(simp only[firstArgMember];rfl)) ?_)
  refine wpAny_newObj_type ?_ (by size_fits)
  simp only[raiseNew]
  refine wpAny_bind (wpAny_handled ?_)
  first|rw[show A.in1.handled=none from hh]|rw[hh]
  refine wpAny_bind (wpAny_pure (wpAny_throw ?_))
  exact hE _ _ (((Heap.SameBut.update ..).extBut.push _).push _) ⟨_,Heap.get?_push_size _ rfl,rfl⟩
structure ZK (c1 c2:Bool)(h:Heap)(z a b i j l m:Addr)(k:Nat):Prop where
 zz:IsZip h z a b .none
 ins:IsPair h a (.ref i) (.ref j)
 out:∃ x y,IsPair h b x y
 i1:xK c1 h i l k
 i2:xK c2 h j m k
theorem CP {c1 c2:Bool}{z a b i j l m:Addr}{k:Nat}{xs ys:Array Value}{x y:Value}{Q:Option Value->Shared->Prop}(D:ZipApart z a b i j l m)(Z:ZK c1 c2 s.heap z a b i j l m k)
  (vm:oJ c1 s.heap l xs) (sZ:oJ c2 s.heap m ys) (hx:xs[k]? = some x) (hy:ys[k]? = some y)
  (hQ:∀ h',IsZip h' z a b (rawInt s.heap.objs.size)->IsPair h' a (.ref i) (.ref j)->IsPair h' b x y->xK c1 h' i l (k+1)->xK c2 h' j m (k+1)->IsPair h' s.heap.objs.size x y->
   (∀ d o,d≠z->d≠b->d≠i->d≠j->s.heap.get? d=some o->h'.get? d=some o)->Q (some (.ref s.heap.objs.size)) { s with heap:=h' }) :
  wpAny (model prog w) A (pyNext (.ref z)) Q E s:=by
 obtain⟨hz,CI,⟨p1,p2,E3⟩,h1,h2⟩:=Z
 have hT:s.TypeIs (.ref z) "zip":=⟨_,hz,rfl⟩
 unfold pyNext
 refine wpAny_bind (wpAny_attempt (wpAny_callSpecial?_slot (name:=Str.ofString "__next__") hT F.slot_zip_next (wpAny_call_entry F.slot_zip_next hT F.entry_zip_next ?_ (F.args_zip_next_1 _))))
 show wpAny _ _ (field (.ref z) 2 >>= _) _ _ _
 refine wpAny_bind (wpAny_field hz rfl (x:=.bool false) rfl ?_)
 show wpAny _ _ (field (.ref z) 3 >>= _) _ _ _
 refine wpAny_bind (wpAny_field hz rfl (x:=.ref a) rfl ?_)
 refine wpAny_bind (wpAny_seqItems CI rfl ?_)
 show wpAny _ _ (Builtin.SmallTypes.ownedTupleIsFree (.ref z) >>= _) _ _ _
 refine wpAny_bind ?_
 unfold Builtin.SmallTypes.ownedTupleIsFree
 refine wpAny_bind (wpAny_field hz rfl (x:=.none) rfl (wpAny_pure ?_))
 simp only[if_true]
 refine wpAny_bind (wpAny_rule ?_)
 refine wpAny_bind (wpAny_field hz rfl (x:=.ref b) rfl ?_)
 refine wpAny_bind (wpAny_setField_rec hz (by simp) λ q1 z1 t1=>?_)
 replace z1:IsZip q1 z a b .ellipsis:=z1
 refine wpAny_bind ?_
 simp only[List.zipIdx_cons,List.zipIdx_nil,List.forIn_cons,List.forIn_nil]
 refine wpAny_bind (wpAny_bind (wpAny_onRaise ?_))
 show wpAny _ _ (Builtin.SmallTypes.nextOf (.ref i) >>= _) _ _ _
 refine wpAny_bind (pN (s:={ s with heap:=q1 }) (h1.at λ o e=>t1.extBut _ _ D.i1z e) (vm.at λ o e=>t1.extBut _ _ D.l1z e) hx λ q2 i2 t2=>wpAny_pure ?_)
 have b2:IsPair q2 b p1 p2:=t2.extBut _ _ D.TOi1 (t1.extBut _ _ D.TOz E3)
 refine wpAny_bind (wpAny_seqItems b2 rfl ?_)
 refine wpAny_bind (wpAny_updateSeq_pair b2 λ q3 b3 t3=>?_)
 replace b3:IsPair q3 b x p2:=b3
 refine wpAny_bind (wpAny_letGo (wpAny_pure ?_))
 refine wpAny_bind (wpAny_bind (wpAny_onRaise ?_))
 show wpAny _ _ (Builtin.SmallTypes.nextOf (.ref j) >>= _) _ _ _
 refine wpAny_bind (pN (s:={ s with heap:=q3 }) (h2.at λ o e=>t3.extBut _ _ D.TOi2.symm (t2.extBut _ _ D.i12.symm (t1.extBut _ _ D.i2z e)))
  (sZ.at λ o e=>t3.extBut _ _ D.l2TO (t2.extBut _ _ D.l2i1 (t1.extBut _ _ D.l2z e))) hy λ q4 j4 t4=>wpAny_pure ?_)
 have b4:IsPair q4 b x p2:=t4.extBut _ _ D.TOi2 b3
 refine wpAny_bind (wpAny_seqItems b4 rfl ?_)
 refine wpAny_bind (wpAny_updateSeq_pair b4 λ q5 b5 t5=>?_)
 replace b5:IsPair q5 b x y:=b5
 refine wpAny_bind (wpAny_letGo (wpAny_pure (wpAny_pure ?_)))
 refine wpAny_bind (wpAny_seqItems b5 rfl ?_)
 refine wpAny_bind (wpAny_newTuple ?_)
 have hsz:q5.objs.size=s.heap.objs.size:=by rw[t5.1,t4.1,t3.1,t2.1,t1.1]
 have z5:IsZip q5 z a b .ellipsis:=t5.extBut _ _ D.TOz.symm (t4.extBut _ _ D.i2z.symm (t3.extBut _ _ D.TOz.symm (t2.extBut _ _ D.i1z.symm z1)))
 have k5:∀ d o,d≠z->d≠b->d≠i->d≠j->s.heap.get? d=some o->q5.get? d=some o:=λ d o e1 e2 e3 e4 e=>
  t5.extBut _ _ e2 (t4.extBut _ _ e4 (t3.extBut _ _ e2 (t2.extBut _ _ e3 (t1.extBut _ _ e1 e))))
 have i5:xK c1 q5 i l (k+1):=i2.at λ o e=>t5.extBut _ _ D.TOi1.symm (t4.extBut _ _ D.i12 (t3.extBut _ _ D.TOi1.symm e))
 have j5:xK c2 q5 j m (k+1):=j4.at λ o e=>t5.extBut _ _ D.TOi2.symm e
 have Qq:z < q5.objs.size:=Heap.lt_size z5
 show wpAny _ _ (Builtin.SmallTypes.ownedTupleHandOut (.ref z) (.ref q5.objs.size) >>= _) _ _ _
 refine wpAny_bind ?_
 unfold Builtin.SmallTypes.ownedTupleHandOut
 have z6:IsZip (q5.push { cls:=.type "tuple",data:=.seq #[x,y] }) z a b .ellipsis:=Heap.get?_push_of_some _ z5
 refine wpAny_bind (wpAny_setField_rec z6 (by simp) λ q7 z7 t7=>?_)
 replace z7:IsZip q7 z a b (rawInt q5.objs.size):=z7
 refine wpAny_setField_rec z7 (by simp) λ q8 z8 t8=>?_
 replace z8:IsZip q8 z a b (rawInt q5.objs.size):=z8
 have up:∀ d o,d≠z->q5.get? d=some o->q8.get? d=some o:=λ d o e1 e=>t8.extBut _ _ e1 (t7.extBut _ _ e1 (Heap.get?_push_of_some _ e))
 have T8:IsPair q8 q5.objs.size x y:=t8.extBut _ _ (Nat.ne_of_gt Qq) (t7.extBut _ _ (Nat.ne_of_gt Qq) (Heap.get?_push_size _ rfl))
 rw[hsz]at z8 T8
 refine wpAny_pure ⟨_,rfl,wpAny_pure ?_⟩
 show Q (some (.ref q5.objs.size)) _
 rw[hsz]
 exact hQ q8 z8 (up _ _ D.TIz (k5 _ _ D.TIz D.TITO D.TIi1 D.TIi2 CI)) (up _ _ D.TOz b5) (i5.at λ o e=>up _ o D.i1z e) (j5.at λ o e=>up _ o D.i2z e) T8 λ d o e1 e2 e3 e4 e=>up d o e1 (k5 d o e1 e2 e3 e4 e)
theorem Gx {c1 c2:Bool}{z a b i j l m:Addr}{k:Nat}{xs ys:Array Value}{Q:Option Value->Shared->Prop}(hh:A.handled=none)(D:ZipApart z a b i j l m)(Z:ZK c1 c2 s.heap z a b i j l m k)
  (vm:oJ c1 s.heap l xs) (sZ:oJ c2 s.heap m ys) (PR:xs[k]? = none∨ys[k]? = none)
  (hQ:∀ h',(∀ d o,d≠z->d≠b->d≠i->d≠j->s.heap.get? d=some o->h'.get? d=some o)->Q none { s with heap:=h' }):wpAny (model prog w) A (pyNext (.ref z)) Q E s:=by
 obtain⟨hz,CI,⟨p1,p2,E3⟩,h1,h2⟩:=Z
 have hT:s.TypeIs (.ref z) "zip":=⟨_,hz,rfl⟩
 unfold pyNext
 have last:∀ h' e,(∀ d o,d≠z->d≠b->d≠i->d≠j->s.heap.get? d=some o->h'.get? d=some o)->(∃ o,h'.get? e=some o/\o.cls=.type "StopIteration")->
   wpAny (model prog w) A (do if <-isInstance (.ref e) (.type "StopIteration") then pure none else throw (.ref e):Sem (Option Value)) Q E { s with heap:=h' }:=λ h' e hk ⟨o,ho,hc⟩=>
  wpAny_bind (wpAny_isInstance (T:="StopIteration") (b:=true) ⟨o,ho,hc⟩ isSubtype_stop (wpAny_pure (hQ h' hk)))
 refine wpAny_bind (wpAny_attempt (wpAny_callSpecial?_slot (name:=Str.ofString "__next__") hT F.slot_zip_next (wpAny_call_entry F.slot_zip_next hT F.entry_zip_next ?_ (F.args_zip_next_1 _))))
 show wpAny _ _ (field (.ref z) 2 >>= _) _ _ _
 refine wpAny_bind (wpAny_field hz rfl (x:=.bool false) rfl ?_)
 show wpAny _ _ (field (.ref z) 3 >>= _) _ _ _
 refine wpAny_bind (wpAny_field hz rfl (x:=.ref a) rfl ?_)
 refine wpAny_bind (wpAny_seqItems CI rfl ?_)
 show wpAny _ _ (Builtin.SmallTypes.ownedTupleIsFree (.ref z) >>= _) _ _ _
 refine wpAny_bind ?_
 unfold Builtin.SmallTypes.ownedTupleIsFree
 refine wpAny_bind (wpAny_field hz rfl (x:=.none) rfl (wpAny_pure ?_))
 simp only[if_true]
 refine wpAny_bind (wpAny_rule ?_)
 refine wpAny_bind (wpAny_field hz rfl (x:=.ref b) rfl ?_)
 refine wpAny_bind (wpAny_setField_rec hz (by simp) λ q1 z1 t1=>?_)
 replace z1:IsZip q1 z a b .ellipsis:=z1
 refine wpAny_bind ?_
 simp only[List.zipIdx_cons,List.zipIdx_nil,List.forIn_cons,List.forIn_nil]
 refine wpAny_bind (wpAny_bind (wpAny_onRaise ?_))
 show wpAny _ _ (Builtin.SmallTypes.nextOf (.ref i) >>= _) _ _ _
 cases hx:xs[k]? with
 | none=>
  refine wpAny_bind (wU (s:={ s with heap:=q1 }) hh (h1.at λ o e=>t1.extBut _ _ D.i1z e) (vm.at λ o e=>t1.extBut _ _ D.l1z e) hx λ q2 e t2 he=>?_)
  obtain⟨oe,IW,L3⟩:=he
  have z2:IsZip q2 z a b .ellipsis:=t2 _ _ D.i1z.symm z1
  have PQ:e≠z:=λ x=>by subst x;rw[z2]at IW;cases IW;simp at L3
  refine wpAny_setField_rec z2 (by simp) λ q3 _ t3=>?_
  exact last q3 e (λ d o e1 _ e3 _ x=>t3.extBut _ _ e1 (t2 _ _ e3 (t1.extBut _ _ e1 x))) ⟨oe,t3.extBut _ _ PQ IW,L3⟩
 | some x=>
  have hy:ys[k]? = none:=by
   rcases PR with h|h
   ·rw[hx]at h;cases h
   ·exact h
  refine wpAny_bind (pN (s:={ s with heap:=q1 }) (h1.at λ o e=>t1.extBut _ _ D.i1z e) (vm.at λ o e=>t1.extBut _ _ D.l1z e) hx λ q2 i2 t2=>wpAny_pure ?_)
  have b2:IsPair q2 b p1 p2:=t2.extBut _ _ D.TOi1 (t1.extBut _ _ D.TOz E3)
  refine wpAny_bind (wpAny_seqItems b2 rfl ?_)
  refine wpAny_bind (wpAny_updateSeq_pair b2 λ q3 b3 t3=>?_)
  refine wpAny_bind (wpAny_letGo (wpAny_pure ?_))
  refine wpAny_bind (wpAny_bind (wpAny_onRaise ?_))
  show wpAny _ _ (Builtin.SmallTypes.nextOf (.ref j) >>= _) _ _ _
  refine wpAny_bind (wU (s:={ s with heap:=q3 }) hh (h2.at λ o e=>t3.extBut _ _ D.TOi2.symm (t2.extBut _ _ D.i12.symm (t1.extBut _ _ D.i2z e)))
   (sZ.at λ o e=>t3.extBut _ _ D.l2TO (t2.extBut _ _ D.l2i1 (t1.extBut _ _ D.l2z e))) hy λ q4 e t4 he=>?_)
  obtain⟨oe,IW,L3⟩:=he
  have z4:IsZip q4 z a b .ellipsis:=t4 _ _ D.i2z.symm (t3.extBut _ _ D.TOz.symm (t2.extBut _ _ D.i1z.symm z1))
  have PQ:e≠z:=λ x=>by subst x;rw[z4]at IW;cases IW;simp at L3
  refine wpAny_setField_rec z4 (by simp) λ q5 _ t5=>?_
  exact last q5 e (λ d o e1 e2 e3 e4 x=>t5.extBut _ _ e1 (t4 _ _ e4 (t3.extBut _ _ e2 (t2.extBut _ _ e3 (t1.extBut _ _ e1 x))))) ⟨oe,t5.extBut _ _ PQ IW,L3⟩
theorem AI (l m:Addr)(xs ys:Array Value) :
  Meets (Builtin.«zip.__new__» ⟨[.type "zip",.ref l,.ref m],[]⟩) (λ _ R s=>s.heap.IsTuple l xs/\s.heap.IsTuple m ys/\
   R (.ok (.ret (.ref (s.heap.objs.size+4)))) { s with heap:=((((s.heap.push { cls:=.type "tuple_iterator",data:=.fields #[.ref l,.int 0 0] }).push { cls:=.type "tuple_iterator",data:=.fields #[.ref m,.int 0 0] }).push
    { cls:=.type "tuple",data:=.seq #[.ref s.heap.objs.size,.ref (s.heap.objs.size+1)] }).push { cls:=.type "tuple",data:=.seq #[.none,.none] }).push { cls:=.type "zip",data:=.fields #[.none,.bool false,.bool false,.ref (s.heap.objs.size+2),.ref (s.heap.objs.size+3)] } }):=
 .of_wp λ prog w A R s h=>by
  obtain⟨hp,g,d,tk,os⟩:=s;obtain⟨vm,sZ,h⟩:=h
  have EW:=sub_zip
  have SJ:Heap.IsTuple (Shared.heap ⟨hp,g,d,tk,os⟩) l xs:=vm
  have SI:Heap.IsTuple (Shared.heap ⟨hp.push { cls:=.type "tuple_iterator",data:=.fields #[.ref l,.int 0 0] },g,d,tk,os⟩) m ys:=Heap.IsTuple.push sZ _
  wp_walk using wpAny_pyIter_tuple SJ,wpAny_pyIter_tuple SI
  simp only[Heap.size_push]at h ⊢
  exact⟨_,rfl,h⟩
theorem yV {c:Bool}{l m:Addr}{xs ys:Array Value}{Q:Value->Shared->Prop}(vm:oJ c s.heap l xs)(sZ:oJ c s.heap m ys)
  (k:∀ h',ZK c c h' (s.heap.objs.size+4) (s.heap.objs.size+2) (s.heap.objs.size+3) s.heap.objs.size (s.heap.objs.size+1) l m 0->(∀ d o,s.heap.get? d=some o->h'.get? d=some o)->Q (.ref (s.heap.objs.size+4)) { s with heap:=h' }) :
  wpAny (model prog w) A (call (.type "zip") [.ref l,.ref m]) Q E s:=by
 cases c with
 | false=>exact call_zip_2 vm sZ λ h' hz CI E3 Sw EZ _ hk=>k h' ⟨hz,CI,⟨_,_,E3⟩,Sw,EZ⟩ hk
 | true=>
  refine callType_new F.called_zip (by decide) (F.typeCall_zip_2 _ _) (F.newCall_zip_2 _ _) (λ obj=>F.args_object_init_3 obj _ _) F.entry_zip_new (AI l m xs ys) ⟨vm,sZ,?_⟩
  have p:∀ (h:Heap) (o1 o2 o3 o4 o5:Obj) (d:Addr) (o:Obj),h.get? d=some o->(((((h.push o1).push o2).push o3).push o4).push o5).get? d=some o:=λ h o1 o2 o3 o4 o5 d o e=>
   Heap.get?_push_of_some _ (Heap.get?_push_of_some _ (Heap.get?_push_of_some _ (Heap.get?_push_of_some _ (Heap.get?_push_of_some _ e))))
  have q5:∀ (h:Heap) (o1 o2 o3 o4 o5:Obj),o5.isFreed=false->(((((h.push o1).push o2).push o3).push o4).push o5).get? (h.objs.size+4)=some o5:=λ h o1 o2 o3 o4 o5 f=>by
   have e:h.objs.size+4=((((h.push o1).push o2).push o3).push o4).objs.size:=by simp only[Heap.size_push]
   rw[e];exact Heap.get?_push_size _ f
  have q4:∀ (h:Heap) (o1 o2 o3 o4 o5:Obj),o4.isFreed=false->(((((h.push o1).push o2).push o3).push o4).push o5).get? (h.objs.size+3)=some o4:=λ h o1 o2 o3 o4 o5 f=>by
   have e:h.objs.size+3=(((h.push o1).push o2).push o3).objs.size:=by simp only[Heap.size_push]
   rw[e];exact Heap.get?_push_of_some _ (Heap.get?_push_size _ f)
  have q3:∀ (h:Heap) (o1 o2 o3 o4 o5:Obj),o3.isFreed=false->(((((h.push o1).push o2).push o3).push o4).push o5).get? (h.objs.size+2)=some o3:=λ h o1 o2 o3 o4 o5 f=>by
   have e:h.objs.size+2=((h.push o1).push o2).objs.size:=by simp only[Heap.size_push]
   rw[e];exact Heap.get?_push_of_some _ (Heap.get?_push_of_some _ (Heap.get?_push_size _ f))
  have q2:∀ (h:Heap) (o1 o2 o3 o4 o5:Obj),o2.isFreed=false->(((((h.push o1).push o2).push o3).push o4).push o5).get? (h.objs.size+1)=some o2:=λ h o1 o2 o3 o4 o5 f=>by
   have e:h.objs.size+1=(h.push o1).objs.size:=by simp only[Heap.size_push]
   rw[e];exact Heap.get?_push_of_some _ (Heap.get?_push_of_some _ (Heap.get?_push_of_some _ (Heap.get?_push_size _ f)))
  have q1:∀ (h:Heap) (o1 o2 o3 o4 o5:Obj),o1.isFreed=false->(((((h.push o1).push o2).push o3).push o4).push o5).get? h.objs.size=some o1:=λ h o1 o2 o3 o4 o5 f=>
   Heap.get?_push_of_some _ (Heap.get?_push_of_some _ (Heap.get?_push_of_some _ (Heap.get?_push_of_some _ (Heap.get?_push_size _ f))))
  exact⟨⟨_,q5 _ _ _ _ _ _ rfl,rfl⟩,k _ ⟨q5 _ _ _ _ _ _ rfl,q3 _ _ _ _ _ _ rfl,⟨_,_,q4 _ _ _ _ _ _ rfl⟩,⟨_,q1 _ _ _ _ _ _ rfl,rfl,rfl⟩,⟨_,q2 _ _ _ _ _ _ rfl,rfl,rfl⟩⟩ λ d o e=>p _ _ _ _ _ _ d o e⟩
end
def t_ (c:Bool)(K:PySem.W.Frag)(H:Hp)(a:Addr)(xs:List V):Prop:=if c=true then hR K H a xs else fh K H a xs
theorem Inv.C8 {X:Cx}{pins:List (Addr × Obj)}{σ:St}{H:Hp}{s:Shared}{c:Bool}{a:Addr}{xs:List V}(I:Inv X pins σ H s)(h:t_ c X.K H a xs):∃ its:List Value,Vals xs its/\oJ c s.heap a its.toArray:=by
 cases c with
 | true=>obtain⟨its,r,p,_⟩:=I.tuple (show hR X.K H a xs from h);exact⟨its,r,p⟩
 | false=>obtain⟨its,r,p,_⟩:=I.list (show fh X.K H a xs from h);exact⟨its,r,p.isList⟩
theorem Inv.sm {X:Cx}{pins:List (Addr × Obj)}{σ:St}{H:Hp}{s:Shared}{c:Bool}{a:Addr}{xs ys:List V}(I:Inv X pins σ H s)(h:t_ c X.K H a xs)(k:t_ c X.K H a ys):xs=ys:=by
 cases c with
 | true=>exact I.mU (show hR X.K H a xs from h) k
 | false=>exact I.pU (show fh X.K H a xs from h) k
def Rk (c:Bool)(K:PySem.W.Frag)(a b:Addr):It:=
  ⟨λ i H=>∃ xs ys x y,t_ c K H a xs/\t_ c K H b ys/\xs[i]? = some x/\ys[i]? = some y,
   λ i H v H'=>∃ T x y,v=.ref T/\H T=none/\H'=upd H T (.tup [x,y])/\∀ xs ys,t_ c K H a xs->t_ c K H b ys->xs[i]? = some x/\ys[i]? = some y,
   λ i H=>∃ xs ys,t_ c K H a xs/\t_ c K H b ys/\(xs.length<=i∨ys.length<=i)⟩
theorem zq {P:Program}{w:World}{K:PySem.W.Frag}{es:List Expr}{kk:Nat}{mV:Pos}(c:Bool)(l m z a b i j:Addr)(D:ZipApart z a b i j l m) :
  Turn P w K (.Tuple es kk mV) (Rk c K l m) [z,a,b,i,j] z (λ n h=>ZK c c h z a b i j l m n) where
 mem:=by simp
 obj:=λ n h st d hd=>by
  obtain⟨hz,CI,⟨p1,p2,E3⟩,h1,h2⟩:=st
  simp only[List.mem_cons,List.not_mem_nil,or_false]at hd
  rcases hd with rfl|rfl|rfl|rfl|rfl
  ·exact⟨_,hz,λ v e=>nomatch e⟩
  ·exact⟨_,CI,λ v e=>nomatch e⟩
  ·exact⟨_,E3,λ v e=>nomatch e⟩
  ·exact h1.obj
  ·exact h2.obj
 keep:=λ n h h' st k=>by
  obtain⟨hz,CI,⟨p1,p2,E3⟩,h1,h2⟩:=st
  exact⟨k z (by simp) _ hz,k a (by simp) _ CI,⟨p1,p2,k b (by simp) _ E3⟩,h1.at λ o e=>k i (by simp) o e,h2.at λ o e=>k j (by simp) o e⟩
 item:=by
  intro X hP hw hK hc n pins s σ H E I hf st hg
  subst hP hw hK
  obtain⟨xs,ys,x,y,NB,NA,hx,hy⟩:=hg
  obtain⟨LD,r1,p1⟩:=I.C8 NB
  obtain⟨df,r2,p2⟩:=I.C8 NA
  obtain⟨u1,e1,GY⟩:=r1.get hx
  obtain⟨u2,e2,Ov⟩:=r2.get hy
  refine CP D st p1 p2 (by simpa using e1) (by simpa using e2) λ h' z1 a1 b1 i1 j1 T1 kp=>?_
  refine⟨_,rfl,wpAny_letOwnedTupleGo_zip (s:={ s with heap:=h' }) z1 λ h2 z2 t2=>?_⟩
  have Q5:H s.heap.objs.size=none:=I.aQ.fresh (Nat.le_refl _)
  have zT:s.heap.objs.size≠z:=Nat.ne_of_gt (Heap.lt_size (show s.heap.get? z=some _ from st.zz))
  have oR:∀ d o,d∉[z,a,b,i,j]->s.heap.get? d=some o->h2.get? d=some o:=λ d o hd e=>by
   simp only[List.mem_cons,List.not_mem_nil,or_false,not_or]at hd
   exact t2.extBut _ _ hd.1 (kp d o hd.1 hd.2.2.1 hd.2.2.2.1 hd.2.2.2.2 e)
  have T2:IsPair h2 s.heap.objs.size u1 u2:=t2.extBut _ _ zT T1
  have AG:∀ d o,H d=some o->d∉[z,a,b,i,j]:=λ d o e hd=>by rw[(hf d hd).1]at e;cases e
  have nT:∀ d o,H d=some o->d≠s.heap.objs.size:=λ d o e q=>by rw[q,Q5]at e;cases e
  have newOk:jG X.prog X.w (upd H s.heap.objs.size (.tup [x,y])) h2:=by
   intro d o e
   by_cases hd:d=s.heap.objs.size
   ·subst hd
    rw[av]at e
    cases e
    exact⟨by show 2<=sizeLine;decide,[u1,u2],.cons GY (.cons Ov .nil),_,T2,rfl,0,rfl⟩
   ·rw[ah hd]at e
    refine(I.aQ d o e).lj (λ q v hq r=>oR q v ?_ r) (λ q r=>by rw[ah (nT q _ r)];exact r) (λ q Gy r=>by rw[ah (nT q _ r)];exact r)
    rcases hq with rfl|hq
    ·exact AG _ _ e
    ·exact AG _ _ hq
  have I2:Inv X pins σ (upd H s.heap.objs.size (.tup [x,y])) { s with heap:=h2 }:=by
   refine I.step (g':=s.gens) (d':=s.drawn) (t':=s.toks) (ch:=[z,a,b,i,j]) (λ d hd=>⟨(hf d hd).2.2.2.1,(hf d hd).2.1,(hf d hd).2.2.2.2.1,(hf d hd).2.2.2.2.2⟩) (λ d o _ _ hd e _=>oR d o hd e) (λ d o _ _ hd e _=>⟨o.slots,oR d o hd e⟩)
    (λ d o hd e nn=>by rw[ah (Nat.ne_of_lt (Heap.lt_size e))];exact nn) (λ d o hd e=>⟨o,oR d o hd e⟩) (λ d Gy e=>by rw[ah (nT d _ e)];exact e) (λ d o u e=>by rw[ah (nT d _ e)];exact e)
    (λ d ps e=>⟨#[],by rw[ah (nT d _ e),e];simp⟩) (λ mm hm=>?_) newOk I.bare
   obtain⟨o,BR,ep,ho,r⟩:=hm
   exact⟨o,BR,ep,oR _ o (λ hd=>(hf _ hd).2.1 rfl) ho,r⟩
  refine⟨.ref s.heap.objs.size,_,I2,rfl,⟨_,x,y,rfl,Q5,rfl,λ Gy Tg k1 k2=>?_⟩,?_,λ d hd=>?_⟩
  ·rw[I.sm k1 NB,I.sm k2 NA]
   exact⟨hx,hy⟩
  ·exact⟨z2,t2.extBut _ _ D.TIz a1,⟨_,_,t2.extBut _ _ D.TOz b1⟩,i1.at λ o e=>t2.extBut _ _ D.i1z e,j1.at λ o e=>t2.extBut _ _ D.i2z e⟩
  ·have PV:d≠s.heap.objs.size:=by
    rintro rfl
    have lt:∀ {q:Addr}{o:Obj},s.heap.get? q=some o->s.heap.objs.size≠q:=λ e=>Nat.ne_of_gt (Heap.lt_size e)
    simp only[List.mem_cons,List.not_mem_nil,or_false]at hd
    obtain⟨o1,g1,_⟩:=st.i1.obj
    obtain⟨o2,g2,_⟩:=st.i2.obj
    obtain⟨y1,y2,g3⟩:=st.out
    rcases hd with q|q|q|q|q
    ·exact lt st.zz q
    ·exact lt st.ins q
    ·exact lt g3 q
    ·exact lt g1 q
    ·exact lt g2 q
   rw[ah PV]
   exact(hf d hd).1
 done:=by
  intro X hP hw hK hc n pins s σ H E I hf st hg
  subst hP hw hK
  obtain⟨xs,ys,NB,NA,hx⟩:=hg
  obtain⟨LD,r1,p1⟩:=I.C8 NB
  obtain⟨df,r2,p2⟩:=I.C8 NA
  have n1:=r1.length
  have n2:=r2.length
  refine Gx (I.ok.hd hc) D st p1 p2 (hx.elim (λ q=>.inl (by simp;omega)) λ q=>.inr (by simp;omega)) λ h' kp=>⟨rfl,?_⟩
  have oR:∀ d o,d∉[z,a,b,i,j]->s.heap.get? d=some o->h'.get? d=some o:=λ d o hd e=>by
   simp only[List.mem_cons,List.not_mem_nil,or_false,not_or]at hd
   exact kp d o hd.1 hd.2.2.1 hd.2.2.2.1 hd.2.2.2.2 e
  have AG:∀ d o,H d=some o->d∉[z,a,b,i,j]:=λ d o e hd=>by rw[(hf d hd).1]at e;cases e
  have there:∀ d o,s.heap.get? d=some o->d∉[z,a,b,i,j]->∃ o',h'.get? d=some o':=λ d o e hd=>⟨o,oR d o hd e⟩
  refine I.step (g':=s.gens) (d':=s.drawn) (t':=s.toks) (ch:=[z,a,b,i,j]) (λ d hd=>⟨(hf d hd).2.2.2.1,(hf d hd).2.1,(hf d hd).2.2.2.2.1,(hf d hd).2.2.2.2.2⟩) (λ d o _ _ hd e _=>oR d o hd e) (λ d o _ _ hd e _=>⟨o.slots,oR d o hd e⟩)
   (λ d o hd e nn=>nn) (λ d o hd e=>⟨o,oR d o hd e⟩) (λ d Gy e=>e) (λ d o u e=>e) (λ d ps e=>⟨#[],by rw[e];simp⟩) (λ mm hm=>?_) (λ d o e=>?_) I.bare
  ·obtain⟨o,BR,ep,ho,r⟩:=hm
   exact⟨o,BR,ep,oR _ o (λ hd=>(hf _ hd).2.1 rfl) ho,r⟩
  ·refine(I.aQ d o e).lj (λ q v hq r=>oR q v ?_ r) (λ _ r=>r) (λ _ _ r=>r)
   rcases hq with rfl|hq
   ·exact AG _ _ e
   ·exact AG _ _ hq
 self:=λ _ _ _ _ _ st h=>wpAny_pyIter_zip st.zz h
def Pe (K:PySem.W.Frag)(t:TA):TI:=λ σ H R=>t σ H λ vs H2=>∃ (c:Bool) (a b:Addr),vs=[.ref a,.ref b]/\(∃ xs,t_ c K H2 a xs)/\(∃ ys,t_ c K H2 b ys)/\R (Rk c K a b) H2
theorem Hi {X:Cx}{es:List Expr}{kk:Nat}{mV:Pos}{e1 e2:Expr}{ta tb:TE}{p pos:Pos}(hg:Gl X "zip")(hm:X.mg "zip"=none)(h1:PE X e1 ta)(h2:PE X e2 tb)
  (hs:starEach [e1,e2] X.env=(false,eval e1 X.env) :: starEach [e2] X.env:=by rfl) (JI:starEach [e2] X.env=[(false,eval e2 X.env)]:=by rfl) (fe:(backTo pos (starEach [e2] X.env)).any (·.1)=false:=by rfl) :
  PI X (.Tuple es kk mV) (.Call (.Name "zip" p) [e1,e2] [] pos) (Pe X.K (qQ ta (qQ tb um))):=by
 intro pins s σ H R I h
 refine wpAny_Call_Name_kw (lH I hg hm PyProof.Rows.boot_zip ?_)
 refine PyProof.Rows.callWith_type1 (bG ((cf h1 (cf h2 fC JI) hs) pos pins s σ H _ I h) λ us s1 ⟨vs,H1,I1,r1,q1⟩=>?_) hs fe
 obtain⟨c,a,b,rfl,⟨xs,hx⟩,⟨ys,hy⟩,q⟩:=q1
 obtain⟨u1,u2,rfl,GY,Ov⟩:=vals2 r1
 cases GY
 cases Ov
 obtain⟨LD,_,p1⟩:=I1.C8 hx
 obtain⟨df,_,p2⟩:=I1.C8 hy
 have a1:a < s1.heap.objs.size:=by
  cases c with
  | true=>obtain⟨_,e,_⟩:=(show s1.heap.IsTuple a _ from p1);exact Heap.lt_size e
  | false=>obtain⟨_,e,_⟩:=(show s1.heap.IsList a _ from p1);exact Heap.lt_size e
 have a2:b < s1.heap.objs.size:=by
  cases c with
  | true=>obtain⟨_,e,_⟩:=(show s1.heap.IsTuple b _ from p2);exact Heap.lt_size e
  | false=>obtain⟨_,e,_⟩:=(show s1.heap.IsList b _ from p2);exact Heap.lt_size e
 refine yV p1 p2 λ h' Z kp=>?_
 refine wpAny_pyIter_zip (s:={ s1 with heap:=h' }) Z.zz ?_
 refine⟨_,_,_,_,H1,rfl,I1.kept (t':=s1.toks) kp,zq c a b _ _ _ _ _ (zipApart_new a1 a2),Z,λ d hd=>?_,q⟩
 have hle:s1.heap.objs.size<=d:=by
  simp only[List.mem_cons,List.not_mem_nil,or_false]at hd
  rcases hd with rfl|rfl|rfl|rfl|rfl
  ·exact Nat.le_add_right _ _
  ·exact Nat.le_add_right _ _
  ·exact Nat.le_add_right _ _
  ·exact Nat.le_refl _
  ·exact Nat.le_add_right _ _
 exact I1.v8 hle (I1.aQ.fresh hle)
end L2
namespace L2
open PySem PySem.Spec PyProof.Rows
def Rm (K:PySem.W.Frag)(a:Addr):It:=
  ⟨λ i H=>∃ xs x,fh K H a xs/\xs[i]? = some x,
   λ i H v H'=>∃ T x,v=.ref T/\H T=none/\H'=upd H T (.tup [.int (i:Int),x])/\∀ xs,fh K H a xs->xs[i]? = some x,
   λ i H=>∃ xs,fh K H a xs/\xs.length<=i⟩
structure EK (h:Heap)(e it l:Addr)(k:Nat):Prop where
 ee:∃ old,IsEnum h e it k old
 ii:h.IsListIter it l k
theorem xQ {P:Program}{w:World}{K:PySem.W.Frag}{es:List Expr}{kk:Nat}{mV:Pos}(l e it:Addr)(QZ:e≠it) :
  Turn P w K (.Tuple es kk mV) (Rm K l) [e,it] e (λ n h=>EK h e it l n) where
 mem:=by simp
 obj:=λ n h st d hd=>by
  obtain⟨⟨old,he⟩,o,ho,_,dd⟩:=st
  simp only[List.mem_cons,List.not_mem_nil,or_false]at hd
  rcases hd with rfl|rfl
  ·exact⟨_,he,λ v z=>nomatch z⟩
  ·exact⟨o,ho,λ v z=>by rw[dd]at z;cases z⟩
 keep:=λ n h h' st k=>by
  obtain⟨⟨old,he⟩,o,ho,r⟩:=st
  exact⟨⟨old,k e (by simp) _ he⟩,o,k it (by simp) o ho,r⟩
 item:=by
  intro X hP hw hK hc n pins s σ H E I hf st hg
  subst hP hw hK
  obtain⟨xs,x,hq,hx⟩:=hg
  obtain⟨its,r1,p1⟩:=I.C8 (c:=false) hq
  obtain⟨u1,e1,GY⟩:=r1.get hx
  obtain⟨⟨old,he⟩,hit⟩:=st
  have hT:H s.heap.objs.size=none:=I.aQ.fresh (Nat.le_refl _)
  have eT:s.heap.objs.size≠e:=Nat.ne_of_gt (Heap.lt_size (show s.heap.get? e=some _ from he))
  have iT:s.heap.objs.size≠it:=by obtain⟨o,ho,_⟩:=hit;exact Nat.ne_of_gt (Heap.lt_size ho)
  refine wpAny_pyNext_enum_item he hit p1 (by simpa using e1) QZ λ h' z1 i1 T1 _ kp=>?_
  refine⟨_,rfl,wpAny_letOwnedTupleGo_enum (s:={ s with heap:=h',toks:=s.toks+1 }) z1 λ h2 z2 t2=>?_⟩
  have oR:∀ d o,d∉[e,it]->s.heap.get? d=some o->h2.get? d=some o:=λ d o hd q=>by
   simp only[List.mem_cons,List.not_mem_nil,or_false,not_or]at hd
   exact(t2.2 d hd.1).trans (kp d o hd.1 hd.2 q)
  have T2:h2.get? s.heap.objs.size=some { cls:=.type "tuple",data:=.seq #[.int (n:Int) s.toks,u1] }:=(t2.2 _ eT).trans T1
  have AG:∀ d o,H d=some o->d∉[e,it]:=λ d o q hd=>by rw[(hf d hd).1]at q;cases q
  have nT:∀ d o,H d=some o->d≠s.heap.objs.size:=λ d o q z=>by rw[z,hT]at q;cases q
  have newOk:jG X.prog X.w (upd H s.heap.objs.size (.tup [.int (n:Int),x])) h2:=by
   intro d o q
   by_cases hd:d=s.heap.objs.size
   ·subst hd
    rw[av]at q
    cases q
    exact⟨by show 2<=sizeLine;decide,[.int (n:Int) s.toks,u1],.cons ⟨_,rfl⟩ (.cons GY .nil),_,T2,rfl,0,rfl⟩
   ·rw[ah hd]at q
    refine(I.aQ d o q).lj (λ a v ha r=>oR a v ?_ r) (λ a r=>by rw[ah (nT a _ r)];exact r) (λ a Gy r=>by rw[ah (nT a _ r)];exact r)
    rcases ha with rfl|ha
    ·exact AG _ _ q
    ·exact AG _ _ ha
  have I2:Inv X pins σ (upd H s.heap.objs.size (.tup [.int (n:Int),x])) { s with heap:=h2,toks:=s.toks+1 }:=by
   refine I.step (g':=s.gens) (d':=s.drawn) (t':=s.toks+1) (ch:=[e,it]) (λ d hd=>⟨(hf d hd).2.2.2.1,(hf d hd).2.1,(hf d hd).2.2.2.2.1,(hf d hd).2.2.2.2.2⟩) (λ d o _ _ hd q _=>oR d o hd q) (λ d o _ _ hd q _=>⟨o.slots,oR d o hd q⟩)
    (λ d o hd q nn=>by rw[ah (Nat.ne_of_lt (Heap.lt_size q))];exact nn) (λ d o hd q=>⟨o,oR d o hd q⟩) (λ d Gy q=>by rw[ah (nT d _ q)];exact q) (λ d o u q=>by rw[ah (nT d _ q)];exact q)
    (λ d ps q=>⟨#[],by rw[ah (nT d _ q),q];simp⟩) (λ mm hm=>?_) newOk I.bare
   obtain⟨o,BR,ep,ho,r⟩:=hm
   exact⟨o,BR,ep,oR _ o (λ hd=>(hf _ hd).2.1 rfl) ho,r⟩
  refine⟨.ref s.heap.objs.size,_,I2,rfl,⟨_,x,rfl,hT,rfl,λ Gy k1=>?_⟩,?_,λ d hd=>?_⟩
  ·rw[I.sm (c:=false) k1 hq]
   exact hx
  ·refine⟨⟨_,by simpa using z2⟩,?_⟩
   obtain⟨o,ho,r⟩:=i1
   exact⟨o,(t2.2 it QZ.symm).trans ho,r⟩
  ·have PV:d≠s.heap.objs.size:=by
    rintro rfl
    simp only[List.mem_cons,List.not_mem_nil,or_false]at hd
    rcases hd with q|q
    ·exact eT q
    ·exact iT q
   rw[ah PV]
   exact(hf d hd).1
 done:=by
  intro X hP hw hK hc n pins s σ H E I hf st hg
  subst hP hw hK
  obtain⟨xs,hq,hx⟩:=hg
  obtain⟨its,r1,p1⟩:=I.C8 (c:=false) hq
  have n1:=r1.length
  obtain⟨⟨old,he⟩,hit⟩:=st
  refine wpAny_pyNext_enum_end (I.ok.hd hc) he hit p1 (by simp;omega) λ h' kp=>⟨rfl,?_⟩
  have oR:∀ d o,d∉[e,it]->s.heap.get? d=some o->h'.get? d=some o:=λ d o hd q=>by
   simp only[List.mem_cons,List.not_mem_nil,or_false,not_or]at hd
   exact kp d o hd.2 q
  have AG:∀ d o,H d=some o->d∉[e,it]:=λ d o q hd=>by rw[(hf d hd).1]at q;cases q
  refine I.step (g':=s.gens) (d':=s.drawn) (t':=s.toks) (ch:=[e,it]) (λ d hd=>⟨(hf d hd).2.2.2.1,(hf d hd).2.1,(hf d hd).2.2.2.2.1,(hf d hd).2.2.2.2.2⟩) (λ d o _ _ hd q _=>oR d o hd q) (λ d o _ _ hd q _=>⟨o.slots,oR d o hd q⟩)
   (λ d o hd q nn=>nn) (λ d o hd q=>⟨o,oR d o hd q⟩) (λ d Gy q=>q) (λ d o u q=>q) (λ d ps q=>⟨#[],by rw[q];simp⟩) (λ mm hm=>?_) (λ d o q=>?_) I.bare
  ·obtain⟨o,BR,ep,ho,r⟩:=hm
   exact⟨o,BR,ep,oR _ o (λ hd=>(hf _ hd).2.1 rfl) ho,r⟩
  ·refine(I.aQ d o q).lj (λ a v ha r=>oR a v ?_ r) (λ _ r=>r) (λ _ _ r=>r)
   rcases ha with rfl|ha
   ·exact AG _ _ q
   ·exact AG _ _ ha
 self:=λ _ _ _ _ _ st h=>by
  obtain⟨⟨old,he⟩,_⟩:=st
  exact wpAny_pyIter_enum he h
def LI (K:PySem.W.Frag)(t:TA):TI:=λ σ H R=>t σ H λ vs H2=>∃ a,vs=[.ref a]/\(∃ xs,fh K H2 a xs)/\R (Rm K a) H2
theorem DJ {X:Cx}{es:List Expr}{kk:Nat}{mV:Pos}{e1:Expr}{ta:TE}{p pos:Pos}(hg:Gl X "enumerate")(hm:X.mg "enumerate"=none)(h1:PE X e1 ta)
  (hs:starEach [e1] X.env=(false,eval e1 X.env) :: starEach [] X.env:=by rfl) (fe:(backTo pos (starEach [] X.env)).any (·.1)=false:=by rfl) :
  PI X (.Tuple es kk mV) (.Call (.Name "enumerate" p) [e1] [] pos) (LI X.K (qQ ta um)):=by
 intro pins s σ H R I h
 refine wpAny_Call_Name_kw (lH I hg hm PyProof.Rows.boot_enumerate ?_)
 refine PyProof.Rows.callWith_type1 (bG ((cf h1 fC hs) pos pins s σ H _ I h) λ us s1 ⟨vs,H1,I1,r1,q1⟩=>?_) hs fe
 obtain⟨a,rfl,⟨xs,hx⟩,q⟩:=q1
 obtain⟨u1,rfl,GY⟩:=r1.one
 cases (show u1=Value.ref a from GY)
 obtain⟨its,_,p1⟩:=I1.C8 (c:=false) hx
 refine call_enumerate_list p1 λ h' z i _ kp=>?_
 refine wpAny_pyIter_enum (s:={ s1 with heap:=h' }) z ?_
 refine⟨_,_,_,_,H1,rfl,I1.kept (t':=s1.toks) kp,xQ a (s1.heap.objs.size+1) s1.heap.objs.size (Nat.succ_ne_self _),⟨⟨_,z⟩,i⟩,λ d hd=>?_,q⟩
 have hle:s1.heap.objs.size<=d:=by
  simp only[List.mem_cons,List.not_mem_nil,or_false]at hd
  rcases hd with rfl|rfl
  ·exact Nat.le_succ _
  ·exact Nat.le_refl _
 exact I1.v8 hle (I1.aQ.fresh hle)
end L2
namespace L2
open PySem PySem.Spec PyProof.Rows
end L2
namespace L2
open PySem PySem.Spec PyProof.Rows
theorem hR.const {K:PySem.W.Frag}{H:Hp}{a:Addr}{od:Option Addr}{its:Array Value}{n:Nat}{sl:Array (Option Value)}{xs:List V}(h:K.lookup a=some ⟨.type "tuple",od,.seq its n,sl⟩)(v:Vals xs its.toList)(hz:xs.length<=1000):hR K H a xs:=
 .inr ⟨_,its,n,h,rfl,rfl,by
  have h2:xs.length=its.size:=v.length
  rw[<-h2]
  exact Nat.le_of_lt (bZ hz),v⟩
end L2
namespace L2
open PySem PySem.Spec PyProof.Rows
open PySem.Builtin.Str in
def G3:V->List V->Hp->VK->Prop:=λ x vs H Q=>∃ t sep,x=.str t/\vs=[.str sep]/\(decide (t.length < sep.length) || decide (strKind t < strKind sep))=false/\(sep.length == 0)=false/\(occurrences t sep 0 t.length (t.length+1)).isEmpty=false/\t.length<=1000/\
 (partsBetween t (occurrences t sep 0 t.length (t.length+1)) sep.length).length<=1000/\∀ l,H l=none->Q (.ref l) (upd H l (.lst ((partsBetween t (occurrences t sep 0 t.length (t.length+1)) sep.length).map V.str)))
theorem kR:∀ (n:Nat)(l:List Str),Vals (l.map V.str) (strsFrom n l)
 | _,[]=>.nil
 | n,x :: r=>.cons ⟨n,rfl⟩ (kR (n+1) r)
theorem AL {X:Cx}:yT X "str.split" G3:=by
 intro pins s σ H x vs v us Q I rx rv h
 obtain⟨t,sep,rfl,rfl,h1,hy,hf,hz,hn,q⟩:=h
 obtain⟨tk,rfl⟩:=rx
 obtain⟨u,rfl,ru⟩:=rv.one
 obtain⟨Ru,rfl⟩:=ru
 refine call_meets F.slot_str_split ((vq (T:="str") (x:=.str t) I ⟨tk,rfl⟩ rfl).1) F.entry_str_split (F.args_str_split_2 _ _) (meets_str_split_sep t sep tk Ru h1 hy hf (Nat.le_of_lt (bZ hz)) (Nat.le_of_lt (bZ hn))) ?_
 refine⟨.ref s.heap.objs.size,_,I.ID (t':=_) (kR s.toks _) ?_,rfl,q _ I.fresh⟩
 rw[List.length_map]
 exact Nat.le_of_lt (bZ hn)
theorem Ao {X:Cx}{K:PySem.W.Frag}{o e:Expr}{es:List Expr}{to:TE}{t:TA}{name:Str}{apos br:Pos}{T id:String}{r:V->List V->Hp->VK->Prop}(hK:X.K=K)(pa:PlainAttrs T)(slot:Slot T name id)(Br:typeOf (.builtin id)=pure (.type "method_descriptor")) (hm:yT X id r)(ho:PE X o to)(ha:PA X (e :: es) t)
  (i4:attributeBase o name X.env (eval o X.env)=eval o X.env:=by rfl)
  (vY:((backTo br (starEach (e :: es) X.env)).all (λ x=>!x.1) && (backToKw br (keywordEach [] X.env)).all (λ x=>x.1.isSome)
   && decide ((e :: es).length+([]:List Keyword).length+(if ([]:List Keyword).isEmpty then 0 else 1) < 30))=true:=by rfl)
  (i3:(apos.endLine == br.line)=true:=by rfl) (hs:starEach (e :: es) X.env=(false,eval e X.env) :: starEach es X.env:=by rfl) (lJ:(backTo br (starEach es X.env)).any (·.1)=false:=by rfl) :
  PE X (.Call (.Attribute o name apos) (e :: es) [] br) (Oi K T r to t):=by subst hK;exact KG pa slot Br hm ho ha i4 vY i3 hs lJ
theorem LC {n:Nat}{i:Int}(h0:0<=i)(h1:i < n):seqIndex? i n=some i.toNat:=by
 have:xb n i=some i.toNat:=by
  unfold xb
  rw[if_pos h0,if_pos h1]
 exact(sV this).1
end L2
namespace HT
open PySem PyProof.Rows
section
variable {prog:Program}{w:World}{A:Around}{E:Value->Shared->Prop}{s:Shared}
theorem kP {t sl:Addr}{items:Array Value}{vl vu:Value}{lo hi:Option Int}{Q:Value->Shared->Prop}(ht:IsTup s.heap t items)(hs:s.heap.IsSliceOf sl vl vu .none)(pl:IsPart vl lo)(pu:IsPart vu hi)
  (h1:dy items.size 0 lo=0) (h2:dy items.size items.size hi=items.size) (h:Q (.ref t) s):wpAny (model prog w) A (getItem (.ref t) (.ref sl)) Q E s:=by
 obtain⟨os,IV,NH,LV⟩:=id hs
 have P2:s.TypeIs (.ref sl) "slice":=⟨os,IV,NH⟩
 unfold getItem
 try with_reducible refine wpAny_holding ?_
 first|refine wpAny_bind (wpAny_pure ?_)|skip
 refine wpAny_bind (wpAny_sequenceKey ht.typeIs (by decide) ?_)
 refine wpAny_bind (wpAny_callSpecial?_slot (name:=Str.ofString "__getitem__") ht.typeIs PyProof.Rows.slot_tuple_getitem
  (wpAny_call_entry PyProof.Rows.slot_tuple_getitem ht.typeIs entry_tuple_getitem ?_ (args_tuple_getitem _ _)))
 show wpAny _ _ (Builtin.Tuple.tupleItemsOf (.ref t) >>= _) _ _ s
 refine wpAny_bind (tupleItemsOf_ ht ?_)
 refine wpAny_bind (wpAny_typeOf P2 ?_)
 rw[if_pos (by decide)]
 refine wpAny_bind (iS hs pl pu ?_)
 have Pf:((((dy items.size 0 lo:Nat):Int) == 0 && (1:Int) == 1 && (dy items.size items.size hi - dy items.size 0 lo) == items.size)=true):=by
  rw[h1,h2];simp
 show wpAny _ _ (if (((dy items.size 0 lo:Nat):Int) == 0 && (1:Int) == 1 && (dy items.size items.size hi - dy items.size 0 lo) == items.size)=true then _ else _) _ _ s
 rw[if_pos Pf]
 unfold Builtin.Tuple.tupleIsExact
 refine wpAny_bind (wpAny_bind (wpAny_typeOf ht.typeIs (wpAny_pure ?_)))
 rw[if_pos (by decide)]
 first
  | exact wpAny_bind (wpAny_rule (wpAny_pure ⟨_,rfl,wpAny_pure h⟩))
  | exact wpAny_bind (wpAny_rule (wpAny_bind (wpAny_pure (wpAny_pure ⟨_,rfl,wpAny_pure h⟩))))
end
end HT
namespace L2
open PySem PySem.Spec PyProof.Rows
def G8 (K:PySem.W.Frag):R2:=λ x y H Q=>∃ a b xs ys,x=.ref a/\y=.ref b/\hR K H a xs/\hR K H b ys/\ys≠[]/\xs.length+ys.length<=sizeLine/\
 (xs=[]->Q (.ref b) H)/\(xs≠[]->∀ p,H p=none->Q (.ref p) (upd H p (.tup (xs++ys))))
theorem Av {X:Cx}:hU X (binaryOp .Add) (G8 X.K):=by
 intro pins s σ H x y v u Q I rx ry h
 obtain⟨a,b,xs,ys,rfl,rfl,ha,hb,hy,hz,q1,q2⟩:=h
 by_cases hx:xs=[]
 ·cases rx
  cases ry
  obtain⟨its,r1,p1,_⟩:=I.tuple ha
  obtain⟨df,r2,p2,_⟩:=I.tuple hb
  obtain⟨⟨cls,dd,data,sl⟩,ho,hc,n,hd⟩:=id p1
  obtain⟨⟨Qf,Mr,data2,Nm⟩,cU,L4,n2,hd2⟩:=id p2
  simp only at hc hd L4 hd2
  subst hc hd L4 hd2
  have he:its=[]:=r1.oQ.mpr hx
  exact concat_meets ⟨_,ho,rfl⟩ ⟨_,cU,rfl⟩ noFill_tuple_add seq_tuple_add PySem.F.slot_tuple_add PySem.F.entry_tuple_add (PySem.F.args_tuple_add_2 _ _)
   (tuple_addW0 a b its.toArray df.toArray n n2 dd Mr sl Nm (by simp[he])) ⟨ho,cU,⟨.ref b,H,I,rfl,q1 hx⟩⟩
 ·exact DV pins s σ H (.ref a) (.ref b) v u Q I rx ry ⟨a,b,xs,ys,rfl,rfl,ha,hb,hx,hz,λ z=>absurd z hy,λ _=>q2 hx⟩
def Kn (K:PySem.W.Frag):V->Option Int->Option Int->Hp->VK->Prop:=λ x lo hi H Q=>∃ a xs,x=.ref a/\hR K H a xs/\
 ((HT.dy xs.length 0 lo=0/\HT.dy xs.length xs.length hi=xs.length)->Q (.ref a) H)/\(¬ (HT.dy xs.length 0 lo=0/\HT.dy xs.length xs.length hi=xs.length)->∀ p,H p=none->Q (.ref p) (upd H p (.tup (qf xs lo hi))))
theorem Di {X:Cx}:Na X (Kn X.K):=by
 intro pins s σ H x v vl vu lo hi sl Q I rx hs pl pu h
 obtain⟨a,xs,rfl,hx,q1,q2⟩:=h
 by_cases hw:HT.dy xs.length 0 lo=0/\HT.dy xs.length xs.length hi=xs.length
 ·cases rx
  obtain⟨its,r,ht,hz⟩:=I.tuple hx
  have hlen:its.toArray.size=xs.length:=by rw[List.size_toArray];exact r.length.symm
  refine⟨"tuple",_,PyProof.Rows.slot_tuple_getitem.lookup,ht.typeIs,?_⟩
  exact HT.kP ht hs pl pu (by rw[hlen];exact hw.1) (by rw[hlen];exact hw.2) ⟨.ref a,H,I,rfl,q1 hw⟩
 ·exact GR pins s σ H (.ref a) v vl vu lo hi sl Q I rx hs pl pu ⟨a,xs,rfl,hx,hw,q2 hw⟩
end L2
namespace L2
open PySem PySem.Spec PyProof.Rows
end L2
namespace L2
open PySem PySem.Spec PySem.W PyProof.Rows
section
variable {prog:Program}{w:World}{A:Around}{E:Value->Shared->Prop}{s:Shared}{K:PySem.W.Frag}{x C:Addr}{ox:Obj}{od:Option Obj}{name:Str}
structure Jv (K:PySem.W.Frag)(C:Addr):Prop where
 ga:PySem.W.findIn K (.ref C) "__getattribute__"=some (some (.builtin "BaseException.__getattribute__"))
 gx:PySem.W.findIn K (.ref C) "__getattr__"=some none
 sb:PySem.W.subIn K (.ref C) (.type "BaseException")=some true
theorem E7:builtinKind "BaseException.__getattribute__"=some .slot:=by decide +kernel
theorem BE:splitId "BaseException.__getattribute__"=some ("BaseException","__getattribute__"):=by decide +kernel
theorem Me:(Value.builtin "BaseException.__getattribute__" == Value.builtin "object.__getattribute__")=false:=by decide +kernel
theorem yY {nameV:Value}{Q:Unit->Shared->Prop}(X:K.In s.heap)(I:InstAt s.heap x ox C od)(g:Jv K C)(hq:Q () s) :
  wpAny (model prog w) A (checkBuiltinCall "BaseException.__getattribute__" ⟨[.ref x,nameV],[]⟩) Q E s:=by
 have L0:=I.type (M:=model prog w)
 have L1:=looks_subIn (M:=model prog w) X g.sb
 have ha:=PySem.F.args_bexc_ga (.ref x) nameV
 simp only[checkBuiltinCall,E7,BE]
 refine wpAny_bind ?_
 unfold isInstance
 refine wpAny_bind (L0.here (L1.here ?_))
 rw[if_neg (by decide)]
 unfold argsOk at ha
 split at ha
 ·rename_i sg e
  rw[e]
  dsimp only
  rw[ha]
  exact wpAny_pure hq
 ·rename_i e
  rw[e]
  exact wpAny_pure hq
theorem yZ {tk:Tok}{gv a:Value}{Q:Fin->Shared->Prop}(X:K.In s.heap)(I:InstAt s.heap x ox C od)(hf:findObj K C od name=some (.bind gv a))
  (hq:wpAny (model prog w) A (call gv [a,.ref x,.ref C]) (λ v s'=>Q (.done (.ret v)) s') E s) :
  wpAny (model prog w) A (Builtin.«object.__getattribute__» ⟨[.ref x,.str name tk],[]⟩) Q E s:=by
 obtain⟨hh,gg,d,t,os⟩:=s
 have L0:=I.type (M:=model prog w)
 have L1:=looks_find (M:=model prog w) X I hf
 unfold Builtin.«object.__getattribute__»
 refine wpAny_bind (wpAny_pure ?_)
 refine wpAny_bind (wpAny_pure (wpAny_bind (L0.at (wpAny_bind (L1.at ?_)))))
 show wpAny _ _ (holding [a] (call gv [a,.ref x,.ref C]) >>= ret) _ _ _
 exact wpAny_bind (wpAny_holding (bG hq λ v s' z=>wpAny_pure z))
theorem JY {tk:Tok}{fill expr:Bool}{Q:Value->Shared->Prop}(X:K.In s.heap)(I:InstAt s.heap x ox C od)(g:Jv K C)
  (hq:wpAny (model prog w) A.in1 (Builtin.«object.__getattribute__» ⟨[.ref x,.str name tk],[]⟩) (λ f s'=>∃ v,f=.done (.ret v)/\handedIn v=true/\Q v s') (λ _ _=>False) s) :
  wpAny (model prog w) A (getAttrBy (.ref x) (.str name tk) fill expr) Q E s:=by
 have L0:=I.type (M:=model prog w)
 have L1:=looks_findIn (M:=model prog w) X g.ga
 have L2:=looks_findIn (M:=model prog w) X g.gx
 have ho:onTheHeap (Value.ref C)=true:=rfl
 unfold getAttrBy
 refine wpAny_holding (wpAny_bind (L0.here (wpAny_bind (L1.here ?_))))
 dsimp only
 rw[if_neg (by rw[Me,Bool.and_false];decide)]
 unfold getAttrByItsOwn hookBefore
 rw[if_pos ho]
 refine wpAny_bind (L2.here (wpAny_bind (wpAny_attempt (wpAny_holding ?_))))
 unfold callGetattribute
 rw[if_neg (by rw[show onTheHeap (Value.builtin "BaseException.__getattribute__")=false from rfl,Bool.and_false];decide)]
 unfold boundAndCalled
 refine wpAny_bind (wpAny_of_eq (PySem.F.attr_ValueError.ga.bind (.ref x)) ?_)
 refine wpAny_call (codeAny_call_builtin PySem.F.attr_ValueError.ga.plain PySem.F.entry_bexc_ga (yY X I g ?_))
 refine wpAny_mono hq (λ f s' z=>?_) (λ _ _ z=>z.elim)
 obtain⟨v,rfl,hh,q⟩:=z
 exact handed_on hh q
structure FD (K:PySem.W.Frag)(C:Addr):Prop extends Jv K C where
 ca:PySem.W.findIn K (.ref C) "__class__"=some (some (.builtin "object.__class__"))
 cn:PySem.W.specialIn K (.builtin "object.__class__") "__get__"=some (some (.builtin "getset_descriptor.__get__"))
 ct:PySem.W.takesIn K (.builtin "object.__class__")=some true
 cm:PySem.W.mroIn K C (.type "object")=some true
 cl:(PySem.W.clsIn K C).isSome=true
theorem uQ {a gv:Value}(hc:(PySem.W.clsIn K C).isSome=true) (ha:PySem.W.findIn K (.ref C) name=some (some a)) (hg:PySem.W.specialIn K a "__get__"=some (some gv)) (ht:PySem.W.takesIn K a=some true):findObj K C od name=some (.bind gv a):=by
 obtain⟨cd,hc⟩:=Option.isSome_iff_exists.mp hc
 simp[findObj,hc,ha,hg,ht]
theorem yX {Q:Option Value->Shared->Prop}(X:K.In s.heap)(I:InstAt s.heap x ox C od)(g:FD K C)(hq:Q (some (.ref C)) { s with toks:=s.toks+1 }) :
  wpAny (model prog w) A (getAttr? (.ref x) "__class__") Q E s:=by
 unfold getAttr? getAttrBy?
 refine wpAny_bind (wpAny_mkText (wpAny_bind (wpAny_attempt ?_)))
 refine JY (s:={ s with toks:=s.toks+1 }) X I g.toJv (yZ (s:={ s with toks:=s.toks+1 }) X I (uQ g.cl g.ca g.cn g.ct) (wpAny_call (class_get (s:={ s with toks:=s.toks+1 }) (ox:=ox) (od:=od) X I g.cm ⟨_,rfl,rfl,?_⟩)))
 exact wpAny_pure hq
theorem xw (hc:(PySem.W.clsIn K C).isSome=true):∃ c1 d1 cd sl,K.lookup C=some ⟨c1,d1,.cls cd,sl⟩:=by
 unfold PySem.W.clsIn at hc
 split at hc
 ·exact⟨_,_,_,_,by assumption⟩
 ·cases hc
theorem uL (g:FD K C):KitX K (.ref x) (.ref C) (λ h=>∃ ox od,InstAt h x ox C od) where
 ty:=λ _ _ _ ⟨_,_,I⟩=>I.type
 it:=λ _ _ X _ A' Q' E' s' k' q'=>by
  obtain⟨c1,d1,cd,sl,hl⟩:=xw g.cl
  show wpAny _ A' (isType (.ref C)) Q' E' s'
  unfold isType loadHead
  exact wpAny_bind (wpAny_loadPart (k' C _ (X C _ hl)) (wpAny_pure q'))
 ne:=λ h tp dd its n sl X QS=>by
  obtain⟨c1,d1,cd,Nn,hl⟩:=xw g.cl
  cases e:(Value.ref C == Value.ref tp) with
  | false=>rfl
  | true=>
   have e2:C=tp:=Value.ref.inj (beq_iff_eq.mp e)
   rw[<-e2,X C _ hl]at QS
   cases QS
 ca:=λ X ⟨_,_,I⟩ k=>yX X I g k
end
end L2
namespace L2
open PySem PySem.Spec PySem.W PyProof.Rows
abbrev oY:List Value:=[.type "ValueError",.type "Exception",.type "BaseException",.type "object"]
def zB (es:Array DictEntry):Bool:=es.toList.all λ en=>match en.key with|.str _ _=>true|_=>false
theorem zA {es:Array DictEntry}(h:zB es=true):StrKeys es:=by
 intro en he
 have q:=List.all_eq_true.mp h en (Array.mem_toList_iff.mpr he)
 cases k:en.key with
 | str n t=>exact⟨n,t,rfl⟩
 | _=>rw[k]at q;cases q
structure NV (K:PySem.W.Frag)(N:Addr)(m:Str->Option Value):Prop where
 ex:∃ nc nd es ep Nr,K.lookup N=some ⟨nc,nd,.dict es ep,Nr⟩/\zB es=true/\∀ x,nsFind es x=m x
theorem NV.ns {K:PySem.W.Frag}{N:Addr}{m:Str->Option Value}{h:Heap}(x:NV K N m)(X:K.In h):h.Ns N m:=by
 obtain⟨nc,nd,es,ep,Nr,l,q,e⟩:=x.ex
 exact⟨_,es,ep,X _ _ l,rfl,zA q,e⟩
inductive mO (K:PySem.W.Frag):List Value->Prop
 | base:mO K oY
 | own {B:Addr}{c0:Value}{dd:Option Addr}{cd:ClassData}{sl:Array (Option Value)}{m:Str->Option Value}{tl:List Value}(l:K.lookup B=some ⟨c0,dd,.cls cd,sl⟩) (n:NV K cd.ns m) (i:m "__init__"=none) (t:mO K tl):mO K (.ref B :: tl)
theorem mO.Hx {K:PySem.W.Frag}{h:Heap}{l:List Value}(t:mO K l)(X:K.In h):OwnTail h oY l:=by
 induction t with
 | base=>exact .base
 | own l n i _ ih=>exact .own (X _ _ l) (n.ns X) i ih
structure hJ (K:PySem.W.Frag)(C:Addr)(nm:Str)(bm:List Value)(lU:Option Value):Prop where
 ex:∃ q N bs sn sub ab col dd k0 k1 k2 k3 k5 m,K.lookup C=some (excClassObj nm q C N bs bm true sn sub ab col dd k0 k1 k2 k3 k5 "ValueError.__new__")/\NV K N m/\m "__init__"=lU
 tail:mO K bm
section
variable {K:PySem.W.Frag}{C:Addr}{nm:Str}{bm:List Value}{lU:Option Value}
theorem hJ.cls (x:hJ K C nm bm lU):∃ cd,PySem.W.clsIn K C=some cd/\cd.mro=.ref C :: bm/\cd.hasDict=true/\cd.name=nm:=by
 obtain⟨q,N,bs,sn,sub,ab,col,dd,k0,k1,k2,k3,k5,m,l,_⟩:=x.ex
 exact⟨_,by unfold PySem.W.clsIn;rw[l],rfl,rfl,rfl⟩
theorem hJ.FX (x:hJ K C nm bm lU):(PySem.W.clsIn K C).isSome=true:=by
 obtain⟨cd,e,_⟩:=x.cls
 rw[e];rfl
theorem hJ.mro (x:hJ K C nm bm lU)(T:Value):PySem.W.subIn K (.ref C) T=some ((Value.ref C :: bm).contains T):=by
 obtain⟨cd,e,em,_⟩:=x.cls
 show PySem.W.mroIn K C T=_
 unfold PySem.W.mroIn
 rw[e,Option.bind_some,em,if_neg (by simp)]
theorem hJ.LA (x:hJ K C nm bm lU)(T:Value)(ht:(∃ n b i,∃ D,T=.ref D/\hJ K D n b i)∨∃ t,T=.type t/\kitMeta t=true):kitOne K (.ref C) T=some ((Value.ref C :: bm).contains T):=by
 unfold kitOne
 by_cases q:(Value.ref C == T)=true
 ·rw[if_pos q,beq_iff_eq.mp q];simp
 ·rw[if_neg q]
  rcases ht with⟨n,b,i,D,rfl,y⟩|⟨t,rfl,y⟩
  ·have z:((PySem.W.clsIn K D).isSome && PySem.W.typeIn K (.ref D) == some (.type "type"))=true:=by
    rw[y.FX]
    obtain⟨_,_,_,_,_,_,_,_,_,_,_,_,_,_,l,_⟩:=y.ex
    have e:PySem.W.typeIn K (.ref D)=some (.type "type"):=by
     show Option.map (λ o=>o.cls) (K.lookup D)=_
     rw[l]
     rfl
    rw[e]
    rfl
   unfold kitCls
   dsimp only
   rw[if_pos z]
   exact x.mro _
  ·unfold kitCls
   dsimp only
   rw[if_pos y]
   exact x.mro _
end
def Nh (C e:Addr):HO:=.ext λ h=>∃ ox:Obj,h.get? e=some ox/\ox.cls=.ref C/\notCls ox=true/\ox.dict=none
def Qr (C e dx:Addr):HO:=.ext λ h=>∃ ox:Obj,h.get? e=some ox/\ox.cls=.ref C/\notCls ox=true/\ox.dict=some dx
theorem bQ.there {P:Program}{w:World}{H:Hp}{h:Heap}{a:Addr}{o:HO}(x:bQ P w H h a o):∃ ob,h.get? a=some ob:=by
 cases o with
 | lst xs=>obtain⟨_,_,_,_,e⟩:=x;exact⟨_,e⟩
 | tup xs=>obtain⟨_,_,_,ob,e,_⟩:=x;exact⟨_,e⟩
 | dK kvs=>obtain⟨_,_,_,_,o,_,_,e,_⟩:=x;exact⟨_,e⟩
 | dT kvs=>obtain⟨_,_,_,_,o,_,_,e,_⟩:=x;exact⟨_,e⟩
 | set S n=>obtain⟨o,_,_,_,e,_⟩:=x;exact⟨_,e⟩
 | ins C dx fs=>obtain⟨_,_,_,e,_⟩:=x;exact⟨_,e⟩
 | own y=>obtain⟨_,e⟩:=x;exact⟨_,e⟩
 | xd fs=>obtain⟨_,⟨_,_,_,e,_⟩,_⟩:=x;exact⟨_,e⟩
 | Km lo hi=>obtain⟨_,_,_,e⟩:=x;exact⟨_,e⟩
 | k9 ob u=>obtain⟨e,_⟩:=x;exact⟨_,e⟩
 | oM ps=>exact⟨_,(show h.get? a=some _ from x)⟩
 | met f y=>exact⟨_,(show h.get? a=some _ from x)⟩
 | ext φ=>obtain⟨_,⟨_,e⟩,_⟩:=x;exact⟨_,e⟩
section
variable {X:Cx}{pins:List (Addr × Obj)}{σ:St}{H:Hp}{s:Shared}{h':Heap}{a:Addr}{o:HO}
theorem Inv.gone (I:Inv X pins σ H s)(hn:s.heap.get? a=none):H a=none:=by
 cases q:H a with
 | none=>rfl
 | some u=>
  obtain⟨ob,e⟩:=(I.aQ a u q).there
  rw[hn]at e;cases e
theorem Inv.Lw {t':Nat}(I:Inv X pins σ H s)(k:∀ b u,s.heap.get? b=some u->h'.get? b=some u)(hn:s.heap.get? a=none)(new:bQ X.prog X.w (upd H a o) h' a o):Inv X pins σ (upd H a o) { s with heap:=h',toks:=t' }:=by
 have ha:=I.gone hn
 have nb:∀ b u,s.heap.get? b=some u->b≠a:=λ b u q z=>by subst z;rw[hn]at q;cases q
 have nh:∀ b u,H b=some u->b≠a:=λ b u q=>aF q ha
 refine I.un ⟨λ b u q _ _ _=>k b u q,λ b u q _ _ _=>⟨u.slots,k b u q⟩,λ b u q n _=>by rw[ah (nb b u q)];exact n,λ b u q _=>⟨u,k b u q⟩,
  λ b xs q=>by rw[ah (nh b _ q)];exact q,λ b u xs q=>by rw[ah (nh b _ q)];exact q,λ b ps q=>⟨#[],by rw[ah (nh b _ q),q];simp⟩⟩ λ b u q=>?_
 by_cases hb:b=a
 ·subst hb;rw[av]at q;cases q;exact new
 ·rw[ah hb]at q
  exact(I.aQ b u q).lj (λ c v _ z=>k c v z) (λ c z=>by rw[ah (nh c _ z)];exact z) λ c xs z=>by rw[ah (nh c _ z)];exact z
end
def NW (H:Hp)(e C:Addr):Prop:=H e=some (Nh C e)∨∃ dx fs,H e=some (Qr C e dx)/\H dx=some (.xd fs)
theorem NW.inst {X:Cx}{pins:List (Addr × Obj)}{σ:St}{H:Hp}{s:Shared}{e C:Addr}(x:NW H e C)(I:Inv X pins σ H s):∃ ox od,InstAt s.heap e ox C od:=by
 rcases x with x|⟨dx,fs,x,hf⟩
 ·obtain⟨⟨ox,e1,e2,e3,e4⟩,_⟩:=I.aQ _ _ x
  exact⟨ox,none,e1,e2,e3,by rw[e4];trivial⟩
 ·obtain⟨⟨ox,e1,e2,e3,e4⟩,_⟩:=I.aQ _ _ x
  obtain⟨mA,⟨od,_,_,q,_⟩,_⟩:=I.aQ _ _ hf
  exact⟨ox,some od,e1,e2,e3,by rw[e4];exact q⟩
def OD (K:PySem.W.Frag):List V->Hp->VK->Prop:=λ xs H Q=>∃ e C v c b,xs=[.ref e,v]/\(match v with|.ty n=>c=Value.type n|.ref a=>c=Value.ref a|_=>False)/\NW H e C/\FD K C/\kitOne K (.ref C) c=some b/\Q (.bl b) H
theorem Cc {X:Cx}:dJ X (.builtin "isinstance") (OD X.K):=by
 rintro pins s σ H xs us Q I rv ⟨e,C,v,c,b,rfl,hv,hx,g,kb,q⟩
 obtain⟨ox,od,J⟩:=hx.inst I
 cases rv with
 | cons r1 rv=>
  cases rv with
  | cons r2 rv=>
   cases rv
   cases (show _=Value.ref e from r1)
   rename_i u2
   have e2:u2=c:=by
    cases v with
    | ty n=>exact(show u2=Value.type n from r2).trans hv.symm
    | ref a=>exact(show u2=Value.ref a from r2).trans hv.symm
    | _=>exact hv.elim
   subst e2
   exact PySem.W.kia_one (uL g) I.jl ⟨ox,od,J⟩ kb (λ z=>nomatch z) λ tk=>⟨.bl b,H,I.tok _,rfl,q⟩
end L2
namespace L2
open PySem PySem.Spec PyProof.Rows
theorem sk:∀ {ss:List Str}{us:List Value},Vals (ss.map V.str) us->∃ l:List (Str × Tok),strValues l=us/\l.map (·.1)=ss
 | [],_,.nil=>⟨[],rfl,rfl⟩
 | x :: r,_,.cons ⟨t,e⟩ h=>by
  obtain⟨l,h1,h2⟩:=sk h
  subst e
  exact⟨(x,t) :: l,by rw[<-h1];rfl,by rw[List.map_cons,h2]⟩
def G4:List V->Hp->VK->Prop:=λ xs H Q=>∃ (l:Addr)(ss:List Str),xs=[.ref l]/\H l=some (.lst (ss.map V.str))/\ss.length < 64/\∀ (CA:List Str) d,H d=none->CA.Perm ss->sortedS CA=true->Q (.ref d) (upd H d (.lst (CA.map V.str)))
theorem pk:∀ {ss:List Str}{us:List Value},Vals (ss.map V.str) us->StrsAre us ss
 | [],_,.nil=>.nil
 | x :: r,_,.cons ⟨t,e⟩ h=>by subst e;exact .cons x t (pk h)
theorem fY:∀ {ss:List Str}{us:List Value},StrsAre us ss->Vals (ss.map V.str) us
 | _,_,.nil=>.nil
 | _,_,.cons x t h=>.cons ⟨t,rfl⟩ (fY h)
theorem qh {X:Cx}:dJ X (.builtin "sorted") G4:=by
 rintro pins s σ H xs us Q I rv ⟨l,ss,rfl,hH,F_,q⟩
 obtain⟨u,rfl,ru⟩:=rv.one
 cases (show u=Value.ref l from ru)
 obtain⟨z,its,n,r,hl,e⟩:=I.sT hH
 rw[List.length_map]at hl
 refine sorted_strs ⟨_,e,rfl,n,rfl⟩ (pk r) (by omega) λ out CA a1 a2 a3=>?_
 obtain⟨e',he⟩:=sortedAll_at s.heap its out
 have hd:H (s.heap.objs.size+1)=none:=I.aQ.fresh (Nat.le_succ _)
 refine⟨.ref (s.heap.objs.size+1),_,I.laid (a:=s.heap.objs.size+1) (o:=.lst (CA.map V.str)) (t':=s.toks) (λ b o z=>sortedAll_old z) (Nat.le_succ _) ⟨?_,_,e',fY a1,?_⟩,rfl,q CA _ hd a2 a3⟩
 ·rw[List.length_map,a2.length_eq];exact Nat.le_of_lt (bZ (by omega))
 ·rw[he]
end L2
namespace L2
open PySem PySem.Spec PyProof.Rows
end L2
namespace Mm
open PySem L2
inductive AV where
 | az|bl (b:Bool)|int (i:Int)|str (x:Str)|tup (xs:List AV)|ref (i:Nat)|sq (xs:List AV)
inductive AO where
 | lst (xs:List AV)|dK (kvs:List (Key × AV))|dT (kvs:List (List Key × AV))|ins (C:Nat) (fs:List (Str × AV))|exc (C:Nat)|tab (i:Nat) (q:Str)
abbrev S:=List AO
abbrev En:=List (Option AV)
structure AX where
 cls:Nat
 fs:List (Str × AV)
inductive R (α:Type) where
 | ok (a:α) (s:S)|ex (c:AX) (s:S)|bad
def R.bind {α β:Type}:R α->(α->S->R β)->R β
 | .ok a s,f=>f a s
 | .ex c s,_=>.ex c s
 | .bad,_=>.bad
inductive RS where
 | nx (e:En) (s:S)|rt (v:AV) (s:S)|bk (e:En) (s:S)|ct (e:En) (s:S)|ex (c:AX) (s:S)|bad
@[simp] theorem aA {α β:Type}(a:α) (s:S) (f:α->S->R β):(R.ok a s).bind f=f a s:=rfl
@[simp] theorem mM {α β:Type}(f:α->S->R β):(R.bad:R α).bind f=.bad:=rfl
structure Tx where
 K:PySem.W.Frag
 cl:Nat->Addr
def Gs (K:PySem.W.Frag)(H:Hp)(a:Addr)(xs:List V):Prop:=
 (∃ o,H a=some (.k9 o (.lst xs)))∨∃ (o:Obj) (its:Array Value) (n:Nat),K.lookup a=some o/\o.cls=.type "list"/\o.dict=none/\o.data=.seq its n/\its.size<=sizeLine/\Vals xs its.toList
theorem Gs.xW {K:PySem.W.Frag}{H:Hp}{a:Addr}{xs:List V}(h:Gs K H a xs):fh K H a xs:=by
 rcases h with h|h
 ·exact .inl (.inr h)
 ·exact .inr h
mutual
def VR (T:Tx)(ρ:List Addr)(H:Hp):AV->V->Prop
 | .az,x=>x=.az
 | .bl b,x=>x=.bl b
 | .int i,x=>x=.int i
 | .str z,x=>x=.str z
 | .tup xs,x=>∃ a vs,x=.ref a/\hR T.K H a vs/\aJ T ρ H xs vs
 | .ref i,x=>∃ a,ρ[i]? = some a/\x=.ref a
 | .sq xs,x=>∃ a vs,x=.ref a/\Gs T.K H a vs/\aJ T ρ H xs vs
def aJ (T:Tx)(ρ:List Addr)(H:Hp):List AV->List V->Prop
 | [],vs=>vs=[]
 | v :: r,vs=>∃ x ys,vs=x :: ys/\VR T ρ H v x/\aJ T ρ H r ys
end
structure Gr (ρ:List Addr)(H:Hp)(ρ':List Addr)(H':Hp):Prop where
 pre:ρ <+: ρ'
 jC:∀ b xs,H b=some (.tup xs)->H' b=some (.tup xs)
 iF:∀ b o u,H b=some (.k9 o u)->H' b=some (.k9 o u)
structure Up (ρ:List Addr)(H:Hp)(ρ':List Addr)(H':Hp):Prop extends Gr ρ H ρ' H' where
 fr:∀ b o,H b=some o->b∉ρ->H' b=some o/\b∉ρ'
 live:∀ b,H' b=none->H b=none
theorem Up.refl {ρ:List Addr}{H:Hp}:Up ρ H ρ H:=⟨⟨List.prefix_rfl,λ _ _ h=>h,λ _ _ _ h=>h⟩,λ _ _ h n=>⟨h,n⟩,λ _ h=>h⟩
theorem Up.trans {ρ ρ1 ρ2:List Addr}{H H1 H2:Hp}(a:Up ρ H ρ1 H1)(b:Up ρ1 H1 ρ2 H2):Up ρ H ρ2 H2:=
 ⟨⟨a.pre.trans b.pre,λ c xs h=>b.jC c xs (a.jC c xs h),λ c o u h=>b.iF c o u (a.iF c o u h)⟩,λ c o h n=>let ⟨h1,n1⟩:=a.fr c o h n;b.fr c o h1 n1,λ c h=>a.live c (b.live c h)⟩
theorem Up.add {ρ ρ1:List Addr}{H H1:Hp}{p:Addr}(a:Up ρ H ρ1 H1)(h:H p=none):Up ρ H (ρ1++[p]) H1:=
 ⟨⟨a.pre.trans (List.prefix_append _ _),a.jC,a.iF⟩,λ b o e n=>⟨(a.fr b o e n).1,λ z=>by
  rcases List.mem_append.mp z with z|z
  ·exact(a.fr b o e n).2 z
  ·rw[List.mem_singleton.mp z,h]at e;cases e⟩,a.live⟩
theorem wI {α:Type}{ρ ρ':List α}(h:ρ <+: ρ'){i:Nat}{a:α}(e:ρ[i]? = some a):ρ'[i]? = some a:=by
 obtain⟨t,rfl⟩:=h
 rw[List.getElem?_append_left]
 ·exact e
 ·exact(List.getElem?_eq_some_iff.mp e).1
theorem Gr.Kk {K:PySem.W.Frag}{ρ ρ':List Addr}{H H':Hp}(u:Gr ρ H ρ' H'){a:Addr}{vs:List V}(h:hR K H a vs):hR K H' a vs:=by
 rcases h with(h|⟨o,h⟩)|h
 ·exact .inl (.inl (u.jC _ _ h))
 ·exact .inl (.inr ⟨o,u.iF _ _ _ h⟩)
 ·exact .inr h
theorem Gr.Oq {K:PySem.W.Frag}{ρ ρ':List Addr}{H H':Hp}(u:Gr ρ H ρ' H'){a:Addr}{vs:List V}(h:Gs K H a vs):Gs K H' a vs:=by
 rcases h with⟨o,h⟩|h
 ·exact .inl ⟨o,u.iF _ _ _ h⟩
 ·exact .inr h
section
variable {T:Tx}{ρ ρ':List Addr}{H H':Hp}
mutual
theorem VR.gr (u:Gr ρ H ρ' H'):∀ {v:AV}{x:V},VR T ρ H v x->VR T ρ' H' v x
 | .az,_,h=>h
 | .bl _,_,h=>h
 | .int _,_,h=>h
 | .str _,_,h=>h
 | .ref _,_,h=>by
  unfold VR at *
  obtain⟨a,h,e⟩:=h
  exact⟨a,wI u.pre h,e⟩
 | .tup _,_,h=>by
  unfold VR at *
  obtain⟨a,vs,e,h1,h2⟩:=h
  exact⟨a,vs,e,u.Kk h1,aJ.gr u h2⟩
 | .sq _,_,h=>by
  unfold VR at *
  obtain⟨a,vs,e,h1,h2⟩:=h
  exact⟨a,vs,e,u.Oq h1,aJ.gr u h2⟩
theorem aJ.gr (u:Gr ρ H ρ' H'):∀ {l:List AV}{xs:List V},aJ T ρ H l xs->aJ T ρ' H' l xs
 | [],_,h=>h
 | _ :: _,_,h=>by
  unfold aJ at *
  obtain⟨x,ys,e,h1,h2⟩:=h
  exact⟨x,ys,e,VR.gr u h1,aJ.gr u h2⟩
end
theorem VR.up (u:Up ρ H ρ' H'){v:AV}{x:V}(h:VR T ρ H v x):VR T ρ' H' v x:=h.gr u.toGr
theorem aJ.up (u:Up ρ H ρ' H'){v:List AV}{x:List V}(h:aJ T ρ H v x):aJ T ρ' H' v x:=h.gr u.toGr
theorem aJ.length:∀ {l:List AV}{xs:List V},aJ T ρ H l xs->l.length=xs.length
 | [],_,h=>by unfold aJ at h;subst h;rfl
 | _ :: _,_,h=>by
  unfold aJ at h
  obtain⟨x,ys,rfl,_,h2⟩:=h
  simp[aJ.length h2]
theorem aJ.nil:aJ T ρ H [] []:=by unfold aJ;rfl
theorem aJ.cons {v:AV}{x:V}{l:List AV}{xs:List V}(h:VR T ρ H v x)(k:aJ T ρ H l xs):aJ T ρ H (v :: l) (x :: xs):=by
 unfold aJ
 exact⟨x,xs,rfl,h,k⟩
theorem aJ.nil_inv {xs:List V}(h:aJ T ρ H [] xs):xs=[]:=by unfold aJ at h;exact h
theorem aJ.cons_inv {v:AV}{l:List AV}{xs:List V}(h:aJ T ρ H (v :: l) xs):∃ x ys,xs=x :: ys/\VR T ρ H v x/\aJ T ρ H l ys:=by unfold aJ at h;exact h
theorem aJ.get:∀ {l:List AV}{xs:List V}{i:Nat}{v:AV},aJ T ρ H l xs->l[i]? = some v->∃ x,xs[i]? = some x/\VR T ρ H v x
 | [],_,_,_,_,e=>by simp at e
 | _ :: _,_,0,_,h,e=>by
  obtain⟨x,ys,rfl,h1,_⟩:=h.cons_inv
  simp at e;subst e
  exact⟨x,rfl,h1⟩
 | _ :: _,_,i+1,_,h,e=>by
  obtain⟨x,ys,rfl,_,h2⟩:=h.cons_inv
  exact aJ.get (i:=i) h2 (by simpa using e)
theorem aJ.append:∀ {l q:List AV}{xs ys:List V},aJ T ρ H l xs->aJ T ρ H q ys->aJ T ρ H (l++q) (xs++ys)
 | [],_,_,_,h,k=>by cases h.nil_inv;exact k
 | _ :: _,_,_,_,h,k=>by
  obtain⟨x,zs,rfl,h1,h2⟩:=h.cons_inv
  exact .cons h1 (aJ.append h2 k)
theorem aJ.one {v:AV}{x:V}(h:VR T ρ H v x):aJ T ρ H [v] [x]:=.cons h .nil
theorem aJ.set:∀ {l:List AV}{xs:List V}{v:AV}{x:V}(i:Nat),aJ T ρ H l xs->VR T ρ H v x->aJ T ρ H (l.set i v) (xs.set i x)
 | [],_,_,_,_,h,_=>by cases h.nil_inv;exact .nil
 | _ :: _,_,_,_,0,h,k=>by
  obtain⟨x,zs,rfl,h1,h2⟩:=h.cons_inv
  exact .cons k h2
 | _ :: _,_,_,_,i+1,h,k=>by
  obtain⟨x,zs,rfl,h1,h2⟩:=h.cons_inv
  exact .cons h1 (aJ.set i h2 k)
theorem aJ.drop:∀ {l:List AV}{xs:List V}(n:Nat),aJ T ρ H l xs->aJ T ρ H (l.drop n) (xs.drop n)
 | _,_,0,h=>h
 | [],_,_+1,h=>by cases h.nil_inv;exact .nil
 | _ :: _,_,n+1,h=>by
  obtain⟨x,zs,rfl,h1,h2⟩:=h.cons_inv
  exact aJ.drop n h2
theorem aJ.take:∀ {l:List AV}{xs:List V}(n:Nat),aJ T ρ H l xs->aJ T ρ H (l.take n) (xs.take n)
 | _,_,0,h=>.nil
 | [],_,_+1,h=>by cases h.nil_inv;exact .nil
 | _ :: _,_,n+1,h=>by
  obtain⟨x,zs,rfl,h1,h2⟩:=h.cons_inv
  exact .cons h1 (aJ.take n h2)
theorem aJ.reverse:∀ {l:List AV}{xs:List V},aJ T ρ H l xs->aJ T ρ H l.reverse xs.reverse
 | [],_,h=>by cases h.nil_inv;exact .nil
 | _ :: _,_,h=>by
  obtain⟨x,zs,rfl,h1,h2⟩:=h.cons_inv
  rw[List.reverse_cons,List.reverse_cons]
  exact(aJ.reverse h2).append (.one h1)
theorem aJ.map {α:Type}{f:α->AV}{g:α->V}(h:∀ a,VR T ρ H (f a) (g a)):∀ (l:List α),aJ T ρ H (l.map f) (l.map g)
 | []=>.nil
 | a :: r=>.cons (h a) (aJ.map h r)
theorem aJ.xB:∀ {ns:List Bool}{xs:List V},aJ T ρ H (ns.map AV.bl) xs->xs=ns.map V.bl
 | [],_,h=>h.nil_inv
 | _ :: _,_,h=>by
  obtain⟨x,zs,rfl,h1,h2⟩:=h.cons_inv
  unfold VR at h1
  rw[h1,aJ.xB h2];rfl
theorem aJ.pj:∀ {ns:List Str}{xs:List V},aJ T ρ H (ns.map AV.str) xs->xs=ns.map V.str
 | [],_,h=>h.nil_inv
 | _ :: _,_,h=>by
  obtain⟨x,zs,rfl,h1,h2⟩:=h.cons_inv
  unfold VR at h1
  rw[h1,aJ.pj h2];rfl
theorem dZ {i:Int}:VR T ρ H (.int i) (.int i):=by unfold VR;rfl
theorem dm {i:Bool}:VR T ρ H (.bl i) (.bl i):=by unfold VR;rfl
theorem gQ {i:Str}:VR T ρ H (.str i) (.str i):=by unfold VR;rfl
theorem mT:VR T ρ H .az .az:=by unfold VR;rfl
theorem lh {i:Nat}{a:Addr}(h:ρ[i]? = some a):VR T ρ H (.ref i) (.ref a):=by unfold VR;exact⟨a,h,rfl⟩
theorem jJ {xs:List AV}{a:Addr}{vs:List V}(h:hR T.K H a vs)(k:aJ T ρ H xs vs):VR T ρ H (.tup xs) (.ref a):=by unfold VR;exact⟨a,vs,rfl,h,k⟩
theorem VR.cK {xs:List AV}{x:V}(h:VR T ρ H (.tup xs) x):∃ a vs,x=.ref a/\hR T.K H a vs/\aJ T ρ H xs vs:=by unfold VR at h;exact h
theorem VR.fN {i:Nat}{x:V}(h:VR T ρ H (.ref i) x):∃ a,ρ[i]? = some a/\x=.ref a:=by unfold VR at h;exact h
theorem VR.fZ {xs:List AV}{x:V}(h:VR T ρ H (.sq xs) x):∃ a vs,x=.ref a/\Gs T.K H a vs/\aJ T ρ H xs vs:=by unfold VR at h;exact h
theorem VR.int_inv {i:Int}{x:V}(h:VR T ρ H (.int i) x):x=.int i:=by unfold VR at h;exact h
theorem VR.g8 {i:Bool}{x:V}(h:VR T ρ H (.bl i) x):x=.bl i:=by unfold VR at h;exact h
theorem VR.str_inv {i:Str}{x:V}(h:VR T ρ H (.str i) x):x=.str i:=by unfold VR at h;exact h
theorem VR.gH {x:V}(h:VR T ρ H .az x):x=.az:=by unfold VR at h;exact h
def se (H:Hp)(q:Str)(ps:Array Value):Prop:=TriplesOk ps.toList/\∀ pos cv,codeAmong pos ps.toList=some cv->∃ c oc u vs t,cv=.ref c/\H c=some (.k9 oc u)/\oc.data=.fields vs/\vs[1]? = some (.str q t)
def OR (T:Tx)(ρ:List Addr)(H:Hp):AO->Addr->Prop
 | .lst xs,a=>∃ vs,H a=some (.lst vs)/\aJ T ρ H xs vs
 | .dK kvs,a=>∃ ks:List (Key × V),H a=some (.dK ks)/\kvs.map (·.1)=ks.map (·.1)/\aJ T ρ H (kvs.map (·.2)) (ks.map (·.2))
 | .dT kvs,a=>∃ ks:List (List Key × V),H a=some (.dT ks)/\kvs.map (·.1)=ks.map (·.1)/\aJ T ρ H (kvs.map (·.2)) (ks.map (·.2))
 | .ins C fs,a=>∃ (dx:Addr) (ks:List (Str × V)),H a=some (.ins (T.cl C) dx ks)/\fs.map (·.1)=ks.map (·.1)/\aJ T ρ H (fs.map (·.2)) (ks.map (·.2))
 | .exc C,a=>H a=some (Nh (T.cl C) a)
 | .tab i q,a=>a=T.cl i/\∃ ps,H a=some (.oM ps)/\se H q ps
theorem OR.ex {o:AO}{a:Addr}(h:OR T ρ H o a):∃ u,H a=some u:=by
 cases o with
 | lst xs=>obtain⟨_,h,_⟩:=h;exact⟨_,h⟩
 | dK xs=>obtain⟨_,h,_⟩:=h;exact⟨_,h⟩
 | dT xs=>obtain⟨_,h,_⟩:=h;exact⟨_,h⟩
 | ins C xs=>obtain⟨_,_,h,_⟩:=h;exact⟨_,h⟩
 | exc C=>exact⟨_,h⟩
 | tab i q=>obtain⟨_,_,h,_⟩:=h;exact⟨_,h⟩
theorem OR.up {o:AO}{a:Addr}(u:Gr ρ H ρ' H')(e:H' a=H a)(h:OR T ρ H o a):OR T ρ' H' o a:=by
 cases o with
 | lst xs=>obtain⟨vs,h,k⟩:=h;exact⟨vs,e.trans h,k.gr u⟩
 | dK xs=>obtain⟨vs,h,q,k⟩:=h;exact⟨vs,e.trans h,q,k.gr u⟩
 | dT xs=>obtain⟨vs,h,q,k⟩:=h;exact⟨vs,e.trans h,q,k.gr u⟩
 | ins C xs=>obtain⟨dx,vs,h,q,k⟩:=h;exact⟨dx,vs,e.trans h,q,k.gr u⟩
 | exc C=>exact e.trans h
 | tab i q=>
  obtain⟨h1,ps,h2,h3,h4⟩:=h
  exact⟨h1,ps,e.trans h2,h3,λ pos cv z=>let ⟨c,oc,w,vs,t,k1,k2,k3⟩:=h4 pos cv z;⟨c,oc,w,vs,t,k1,u.iF _ _ _ k2,k3⟩⟩
end
structure SR (T:Tx)(ρ:List Addr)(s:S)(H:Hp):Prop where
 nd:ρ.Nodup
 len:ρ.length=s.length
 obj:∀ (i:Nat) (o:AO),s[i]? = some o->∃ a,ρ[i]? = some a/\OR T ρ H o a
section
variable {T:Tx}{ρ ρ':List Addr}{s:S}{H H':Hp}
theorem SR.in (h:SR T ρ s H){a:Addr}(ha:a∈ρ):∃ u,H a=some u:=by
 obtain⟨i,hi,e⟩:=List.getElem_of_mem ha
 have EZ:i < s.length:=by rw[<-h.len];exact hi
 obtain⟨b,e2,q⟩:=h.obj i s[i] (List.getElem?_eq_getElem EZ)
 rw[List.getElem?_eq_getElem hi]at e2
 cases e2
 rw[e]at q
 exact q.ex
theorem SR.out (h:SR T ρ s H){a:Addr}(ha:H a=none):a∉ρ:=λ z=>by
 obtain⟨u,e⟩:=h.in z
 rw[ha]at e;cases e
theorem SR.d_ (h:SR T ρ s H){p:Addr}{o:HO}(hp:H p=none):Up ρ H ρ (upd H p o):=
 ⟨⟨List.prefix_rfl,λ b xs e=>by rw[ah (aF e hp)];exact e,λ b o u e=>by rw[ah (aF e hp)];exact e⟩,λ b u e n=>⟨by rw[ah (aF e hp)];exact e,n⟩,λ b e=>by
  by_cases hb:b=p
  ·rw[hb];exact hp
  ·rw[ah hb]at e;exact e⟩
theorem SR.up (h:SR T ρ s H)(u:Gr ρ H ρ H')(k:∀ a∈ρ,H' a=H a):SR T ρ s H':=
 ⟨h.nd,h.len,λ i o e=>by
  obtain⟨a,e1,q⟩:=h.obj i o e
  exact⟨a,e1,q.up u (k a (List.mem_of_getElem? e1))⟩⟩
theorem SR.new (h:SR T ρ s H){p:Addr}{o:HO}(hp:H p=none):SR T ρ s (upd H p o):=
 h.up (h.d_ hp).toGr λ a ha=>ah λ e=>h.out hp (e ▸ ha)
theorem SR.add (h:SR T ρ s H){p:Addr}{o:AO}(hp:p∉ρ)(k:OR T (ρ++[p]) H o p):SR T (ρ++[p]) (s++[o]) H:=by
 refine⟨List.nodup_append.mpr ⟨h.nd,by simp,λ a ha b hb e=>hp (by rw[List.mem_singleton.mp hb]at e;exact e ▸ ha)⟩,by simp[h.len],λ i q e=>?_⟩
 by_cases hi:i < s.length
 ·rw[List.getElem?_append_left hi]at e
  obtain⟨a,e1,q1⟩:=h.obj i q e
  refine⟨a,by rw[List.getElem?_append_left (by rw[h.len];exact hi)];exact e1,?_⟩
  exact q1.up ⟨List.prefix_append _ _,λ _ _ e=>e,λ _ _ _ e=>e⟩ rfl
 ·rw[List.getElem?_append_right (by omega)]at e
  have hz:i - s.length=0:=by
   have:=(List.getElem?_eq_some_iff.mp e).1
   simp at this;omega
  rw[hz]at e
  cases e
  exact⟨p,by rw[List.getElem?_append_right (by rw[h.len];omega),h.len,hz];rfl,k⟩
end
structure Rl (α β:Type) where
 r:Hp->List Addr->Hp->α->β->Prop
 FA:∀ {H H1:Hp}{ρ:List Addr}{H':Hp}{v:α}{x:β},(∀ b,H1 b=none->H b=none)->r H1 ρ H' v x->r H ρ H' v x
abbrev gI:=AX->List Addr->S->Hp->Prop
def Out {α β:Type}(T:Tx)(XE:gI)(rl:Rl α β)(ρ:List Addr)(H:Hp):R α->(β->Hp->Prop)->Prop
 | .ok v s,Q=>∀ ρ' H' x,Up ρ H ρ' H'->SR T ρ' s H'->rl.r H ρ' H' v x->Q x H'
 | .ex c s,_=>∀ ρ' H',Up ρ H ρ' H'->SR T ρ' s H'->XE c ρ' s H'
 | .bad,_=>False
theorem Out.up {α β:Type}{T:Tx}{XE:gI}{rl:Rl α β}{ρ ρ':List Addr}{H H':Hp}{r:R α}{Q:β->Hp->Prop}(u:Up ρ H ρ' H')(h:Out T XE rl ρ H r Q):Out T XE rl ρ' H' r Q:=by
 cases r with
 | ok v s=>exact λ ρ2 H2 x u2 sr vr=>h ρ2 H2 x (u.trans u2) sr (rl.FA u.live vr)
 | ex c s=>exact λ ρ2 H2 u2 sr=>h ρ2 H2 (u.trans u2) sr
 | bad=>exact h
theorem Out.imp {α β:Type}{T:Tx}{XE:gI}{rl:Rl α β}{ρ:List Addr}{H:Hp}{r:R α}{Q Q':β->Hp->Prop}(h:Out T XE rl ρ H r Q)(k:∀ x H',Q x H'->Q' x H'):Out T XE rl ρ H r Q':=by
 cases r with
 | ok v s=>exact λ ρ2 H2 x u2 sr vr=>k _ _ (h ρ2 H2 x u2 sr vr)
 | ex c s=>exact h
 | bad=>exact h
structure ER (T:Tx)(ρ:List Addr)(H:Hp)(env:En)(σ:St):Prop where
 len:env.length=σ.length
 get:∀ (i:Nat) (v:AV),env[i]? = some (some v)->∃ x,σ[i]? = some (some x)/\VR T ρ H v x
theorem ER.up {T:Tx}{ρ ρ':List Addr}{H H':Hp}{env:En}{σ:St}(u:Up ρ H ρ' H')(h:ER T ρ H env σ):ER T ρ' H' env σ:=
 ⟨h.len,λ i v e=>let ⟨x,e1,q⟩:=h.get i v e;⟨x,e1,q.up u⟩⟩
theorem ER.set {T:Tx}{ρ:List Addr}{H:Hp}{env:En}{σ:St}(h:ER T ρ H env σ){i:Nat}{v:AV}{x:V}(k:VR T ρ H v x):ER T ρ H (env.set i (some v)) (σ.set i (some x)):=by
 refine⟨by simp[h.len],λ j w e=>?_⟩
 by_cases qk:i=j
 ·subst qk
  have hl:i < env.length:=by
   have:=(List.getElem?_eq_some_iff.mp e).1
   simpa using this
  rw[List.getElem?_set_self hl]at e
  cases e
  exact⟨x,by rw[List.getElem?_set_self (by rw[<-h.len];exact hl)],k⟩
 ·rw[List.getElem?_set_ne qk]at e ⊢
  exact h.get j w e
def tG {α β:Type}(T:Tx)(XE:gI)(rl:Rl α β)(m:En->S->R α):St->Hp->(β->Hp->Prop)->Prop:=λ σ H Q=>
 ∃ ρ env s,SR T ρ s H/\ER T ρ H env σ/\Out T XE rl ρ H (m env s) Q
theorem step {α β α' β':Type}{T:Tx}{XE:gI}{rl:Rl α β}{Qy:Rl α' β'}{ρ:List Addr}{env:En}{s:S}{σ:St}{H:Hp}{m:En->S->R α}{k:α->S->R α'}{Q:β'->Hp->Prop}{F:β->Hp->Prop}
  (hs:SR T ρ s H) (he:ER T ρ H env σ) (ho:Out T XE Qy ρ H ((m env s).bind k) Q)
  (hk:∀ v s1 ρ1 H1 x,m env s=.ok v s1->Up ρ H ρ1 H1->SR T ρ1 s1 H1->ER T ρ1 H1 env σ->rl.r H ρ1 H1 v x->Out T XE Qy ρ1 H1 (k v s1) Q->F x H1):tG T XE rl m σ H F:=by
 refine⟨ρ,env,s,hs,he,?_⟩
 cases e:m env s with
 | ok v s1=>
  rw[e]at ho
  exact λ ρ1 H1 x u sr vr=>hk v s1 ρ1 H1 x e u sr (he.up u) vr (Out.up u ho)
 | ex c s1=>rw[e]at ho;exact ho
 | bad=>rw[e]at ho;exact ho
theorem Out.here {α β:Type}{T:Tx}{XE:gI}{rl:Rl α β}{ρ:List Addr}{H:Hp}{v:α}{s:S}{Q:β->Hp->Prop}{x:β}(h:Out T XE rl ρ H (.ok v s) Q) (sr:SR T ρ s H)(r:rl.r H ρ H v x):Q x H:=h ρ H x .refl sr r
theorem PE.imp {X:Cx}{e:Expr}{t t':TE}(h:PE X e t)(k:∀ σ H Q,t' σ H Q->t σ H Q):PE X e t':=λ pins s σ H Q I hq=>h pins s σ H Q I (k σ H Q hq)
theorem PT.imp {X:Cx}{e:Expr}{t t':TT}(h:PT X e t)(k:∀ σ H Q,t' σ H Q->t σ H Q):PT X e t':=λ pins s σ H Q I hq=>h pins s σ H Q I (k σ H Q hq)
theorem PW.imp {X:Cx}{e:Expr}{t t':TT}(h:PW X e t)(k:∀ σ H Q,t' σ H Q->t σ H Q):PW X e t':=λ wh pins s σ H Q I hq=>h wh pins s σ H Q I (k σ H Q hq)
theorem PA.imp {X:Cx}{e:List Expr}{t t':TA}(h:PA X e t)(k:∀ σ H Q,t' σ H Q->t σ H Q):PA X e t':=λ pos pins s σ H Q I hq=>h pos pins s σ H Q I (k σ H Q hq)
theorem PS.imp {X:Cx}{e:Stmt}{t t':TS}(h:PS X e t)(k:∀ D σ H,t' D σ H->t D σ H):PS X e t':=λ pins s σ H Q I hq=>h pins s σ H Q I (k Q σ H hq)
theorem kA.imp {X:Cx}{e:List Stmt}{t t':TS}(h:kA X e t)(k:∀ D σ H,t' D σ H->t D σ H):kA X e t':=λ pins s σ H Q I hq=>h pins s σ H Q I (k Q σ H hq)
theorem PI.imp {X:Cx}{tg e:Expr}{t t':TI}(h:PI X tg e t)(k:∀ σ H R,t' σ H R->t σ H R):PI X tg e t':=λ pins s σ H Q I hq=>h pins s σ H Q I (k σ H Q hq)
theorem PG.imp {X:Cx}{e:Expr}{t t':TG}(h:PG X e t)(k:∀ v σ H Q,t' v σ H Q->t v σ H Q):PG X e t':=λ pins s σ H v u Q I r hq=>h pins s σ H v u Q I r (k v σ H Q hq)
theorem xH.imp {X:Cx}{e:List Expr}{t t':FF}(h:xH X e t)(k:∀ v σ H Q,t' v σ H Q->t v σ H Q):xH X e t':=λ pins s σ H v u Q I r hq=>h pins s σ H v u Q I r (k v σ H Q hq)
end Mm
namespace Mm
open PySem L2
abbrev Ev:=En->S->R AV
abbrev dY:=En->S->R (List AV)
abbrev Eb:=En->S->R Bool
structure CO (i:Int):Prop where
 f:eJ 60000000 i
structure JA (i:Int):Prop where
 f:eJ 9000 i
noncomputable instance {i:Int}:Decidable (CO i):=Classical.propDecidable _
noncomputable instance {i:Int}:Decidable (JA i):=Classical.propDecidable _
def rV (T:Tx):Rl AV V:=⟨λ _ ρ H v x=>VR T ρ H v x,λ _ h=>h⟩
def rA (T:Tx):Rl (List AV) (List V):=⟨λ _ ρ H v x=>aJ T ρ H v x,λ _ h=>h⟩
def rB:Rl Bool Bool:=⟨λ _ _ _ b c=>b=c,λ _ h=>h⟩
def rL (T:Tx):Rl (List AV) V:=⟨λ wt ρ H xs x=>∃ a vs,x=.ref a/\wt a=none/\a∉ρ/\H a=some (.lst vs)/\aJ T ρ H xs vs,λ k ⟨a,vs,e,h,r⟩=>⟨a,vs,e,k a h,r⟩⟩
def rQ (T:Tx):Rl (List AV) V:=⟨λ _ ρ H xs x=>∃ a vs,x=.ref a/\(fh T.K H a vs∨hR T.K H a vs)/\aJ T ρ H xs vs,λ _ h=>h⟩
theorem Out.aK {T:Tx}{XE:gI}{ρ:List Addr}{H:Hp}{v:AV}{s:S}{Q:VK}{x:V}(h:Out T XE (rV T) ρ H (.ok v s) Q) (sr:SR T ρ s H)(r:VR T ρ H v x):Q x H:=h ρ H x .refl sr r
abbrev tE (T:Tx)(XE:gI)(m:Ev):TE:=tG T XE (rV T) m
abbrev tL (T:Tx)(XE:gI)(m:dY):TE:=tG T XE (rL T) m
abbrev tQ (T:Tx)(XE:gI)(m:dY):TE:=tG T XE (rQ T) m
abbrev tP (T:Tx)(XE:gI)(m:dY):TA:=tG T XE (rA T) m
abbrev iR (T:Tx)(XE:gI)(m:Eb):TT:=tG T XE rB m
section
variable {T:Tx}{XE:gI}{X:Cx}{pos:Pos}
def mv (i:Nat):Ev:=λ env s=>match env[i]? with
 | some (some v)=>.ok v s
 | _=>.bad
theorem O4 {i:Nat}{e:Expr}(h:PE X e (GG i)):PE X e (tE T XE (mv i)):=PE.imp h λ σ H Q ⟨ρ,env,s,hs,he,ho⟩=>by
 unfold mv at ho
 split at ho
 ·rename_i v ev
  obtain⟨x,e1,q⟩:=he.get i v ev
  exact⟨x,e1,ho.aK hs q⟩
 ·exact ho.elim
def mc (v:AV):Ev:=λ _ s=>.ok v s
theorem Ip {i:Int}{j:Nat}:PE X (.Constant (.int i) j pos) (tE T XE (mc (.int i))):=PE.imp Hs λ σ H Q ⟨ρ,env,s,hs,he,ho⟩=>ho.aK hs dZ
theorem Lp {i:Bool}{j:Nat}:PE X (.Constant (.bool i) j pos) (tE T XE (mc (.bl i))):=PE.imp KH λ σ H Q ⟨ρ,env,s,hs,he,ho⟩=>ho.aK hs dm
theorem Ii {j:Nat}:PE X (.Constant .none j pos) (tE T XE (mc .az)):=PE.imp Hq λ σ H Q ⟨ρ,env,s,hs,he,ho⟩=>ho.aK hs mT
theorem Ie {i:Str}{j:Nat}:PE X (.Constant (.str i) j pos) (tE T XE (mc (.str i))):=PE.imp Hm λ σ H Q ⟨ρ,env,s,hs,he,ho⟩=>ho.aK hs gQ
theorem Ex {x:Str}{v:V}{u:Value}{a:AV}(hg:Gl X x)(hm:X.mg x=some u)(r:RelV v u)(hv:∀ ρ H,VR T ρ H a v)(hd:(x == ("__debug__":Str))=false:=by decide):PE X (.Name x pos) (tE T XE (mc a)):=
 PE.imp (sH hg hm r hd) λ σ H Q ⟨ρ,env,s,hs,he,ho⟩=>ho.aK hs (hv ρ H)
def qj (T:Tx)(XE:gI)(op:AV->AV->S->R AV):R2:=λ x y H Q=>∃ ρ v w s,SR T ρ s H/\VR T ρ H v x/\VR T ρ H w y/\Out T XE (rV T) ρ H (op v w s) Q
def OI (T:Tx)(XE:gI)(op:AV->S->R AV):V->Hp->VK->Prop:=λ x H Q=>∃ ρ v s,SR T ρ s H/\VR T ρ H v x/\Out T XE (rV T) ρ H (op v s) Q
def ae (op:AV->AV->S->R AV)(a b:Ev):Ev:=λ env s=>(a env s).bind λ v s1=>(b env s1).bind λ w s2=>op v w s2
def cA (op:AV->S->R AV)(a:Ev):Ev:=λ env s=>(a env s).bind λ v s1=>op v s1
theorem t2 {op:AV->AV->S->R AV}{a b:Ev}{σ:St}{H:Hp}{Q:VK}(h:tE T XE (ae op a b) σ H Q):J' (qj T XE op) (tE T XE a) (tE T XE b) σ H Q:=by
 obtain⟨ρ,env,s,hs,he,ho⟩:=h
 exact step hs he ho λ v s1 ρ1 H1 x _ u1 aL cb aI ay=>step aL cb ay λ w s2 ρ2 H2 y _ u2 fA lQ iz cU=>⟨ρ2,v,w,s2,fA,VR.up u2 aI,iz,cU⟩
theorem t1 {op:AV->S->R AV}{a:Ev}{σ:St}{H:Hp}{Q:VK}(h:tE T XE (cA op a) σ H Q):Qv (OI T XE op) (tE T XE a) σ H Q:=by
 obtain⟨ρ,env,s,hs,he,ho⟩:=h
 exact step hs he ho λ v s1 ρ1 H1 x _ u1 aL cb aI ay=>⟨ρ1,v,s1,aL,aI,ay⟩
theorem pR {o:Operator}{op:AV->AV->S->R AV}{a b:Expr}{m1 m2:Ev}(Bt:hU X (binaryOp o) (qj T XE op)) (ha:PE X a (tE T XE m1)) (hb:PE X b (tE T XE m2)):PE X (.BinOp a o b pos) (tE T XE (ae op m1 m2)):=
 PE.imp (KC Bt ha hb) λ _ _ _ h=>t2 h
theorem Li {o:UnaryOp}{op:AV->S->R AV}{a:Expr}{m1:Ev}(Bt:M_ X (unaryOp o) (OI T XE op)) (ha:PE X a (tE T XE m1)):PE X (.UnaryOp o a pos) (tE T XE (cA op m1)):=
 PE.imp (Kz Bt ha) λ _ _ _ h=>t1 h
theorem iB {o:CmpOp}{op:AV->AV->S->R AV}{a b:Expr}{m1 m2:Ev}(Bt:hU X (compareOp o) (qj T XE op)) (ha:PE X a (tE T XE m1)) (hb:PE X b (tE T XE m2)) (hm:behindInMarks o b=false:=by rfl):PE X (.Compare a [o] [b] pos) (tE T XE (ae op m1 m2)):=
 PE.imp (DR Bt ha hb hm) λ _ _ _ h=>t2 h
theorem Ll {op:AV->AV->S->R AV}{a b:Expr}{m1 m2:Ev}(Bt:JT X (qj T XE op)) (ha:PE X a (tE T XE m1)) (hb:PE X b (tE T XE m2)) (hs:xG b:=by exact λ _ _=>rfl):PE X (.Subscript a b pos) (tE T XE (ae op m1 m2)):=
 PE.imp (KD Bt ha hb hs) λ _ _ _ h=>t2 h
theorem Out.alloc {ρ:List Addr}{H:Hp}{s:S}{o:AO}{u:HO}{p:Addr}{Q:VK}(h:Out T XE (rV T) ρ H (.ok (.ref s.length) (s++[o])) Q) (sr:SR T ρ s H)(hp:H p=none)(k:OR T (ρ++[p]) (upd H p u) o p):Q (.ref p) (upd H p u):=by
 have s1:SR T (ρ++[p]) (s++[o]) (upd H p u):=(sr.new hp).add (sr.out hp) k
 exact h _ _ _ ((sr.d_ hp).add hp) s1 (lh (T:=T) (H:=upd H p u) (by rw[List.getElem?_append_right (by rw[sr.len];exact Nat.le_refl _),sr.len,Nat.sub_self];rfl))
theorem Out.tup {ρ:List Addr}{H:Hp}{s:S}{xs:List AV}{vs:List V}{p:Addr}{Q:VK}(h:Out T XE (rV T) ρ H (.ok (.tup xs) s) Q) (sr:SR T ρ s H)(hp:H p=none)(k:aJ T ρ H xs vs):Q (.ref p) (upd H p (.tup vs)):=
 h _ _ _ (sr.d_ hp) (sr.new hp) (jJ (hR.of av) (aJ.up (sr.d_ hp) k))
theorem Out.lst {ρ:List Addr}{H:Hp}{s:S}{xs:List AV}{vs:List V}{p:Addr}{Q:VK}(h:Out T XE (rL T) ρ H (.ok xs s) Q) (sr:SR T ρ s H)(hp:H p=none)(k:aJ T ρ H xs vs):Q (.ref p) (upd H p (.lst vs)):=
 h _ _ _ (sr.d_ hp) (sr.new hp) ⟨p,vs,rfl,hp,sr.out hp,av,aJ.up (sr.d_ hp) k⟩
theorem SR.eA {ρ:List Addr}{H:Hp}{s:S}(sr:SR T ρ s H){i:Nat}{xs:List AV}(e:s[i]? = some (.lst xs)) {x:V}(h:VR T ρ H (.ref i) x):∃ a vs,x=.ref a/\ρ[i]? = some a/\H a=some (.lst vs)/\aJ T ρ H xs vs:=by
 obtain⟨a,e1,vs,h1,h2⟩:=sr.obj i _ e
 obtain⟨b,e2,rfl⟩:=h.fN
 rw[e1]at e2
 cases e2
 exact⟨a,vs,rfl,e1,h1,h2⟩
theorem SR.qE {ρ:List Addr}{H:Hp}{s:S}(sr:SR T ρ s H){i:Nat}{xs:List (Key × AV)}(e:s[i]? = some (.dK xs)) {x:V}(h:VR T ρ H (.ref i) x):∃ (a:Addr) (vs:List (Key × V)),x=.ref a/\ρ[i]? = some a/\H a=some (.dK vs)/\xs.map (·.1)=vs.map (·.1)/\aJ T ρ H (xs.map (·.2)) (vs.map (·.2)):=by
 obtain⟨a,e1,vs,h1,h2⟩:=sr.obj i _ e
 obtain⟨b,e2,rfl⟩:=h.fN
 rw[e1]at e2
 cases e2
 exact⟨a,vs,rfl,e1,h1,h2⟩
theorem SR.qN {ρ:List Addr}{H:Hp}{s:S}(sr:SR T ρ s H){i:Nat}{a:Addr}(e:ρ[i]? = some a){u u0:HO}(h0:H a=some u0)(n1:∀ xs,u0≠.tup xs)(n2:∀ o v,u0≠.k9 o v):Up ρ H ρ (upd H a u):=by
 refine⟨⟨List.prefix_rfl,λ b xs h=>?_,λ b o v h=>?_⟩,λ b o h n=>⟨?_,n⟩,λ b h=>?_⟩
 ·rw[ah (pQ h h0 λ z=>n1 xs z.symm)];exact h
 ·rw[ah (pQ h h0 λ z=>n2 o v z.symm)];exact h
 ·rw[ah λ z=>n (by rw[z];exact List.mem_of_getElem? e)];exact h
 ·by_cases hb:b=a
  ·subst hb;rw[av]at h;cases h
  ·rw[ah hb]at h;exact h
theorem SR.set {ρ:List Addr}{H:Hp}{s:S}(sr:SR T ρ s H){i:Nat}{a:Addr}(e:ρ[i]? = some a){u:HO}{o:AO}(up:Up ρ H ρ (upd H a u)) (k:OR T ρ (upd H a u) o a):SR T ρ (s.set i o) (upd H a u):=by
 refine⟨sr.nd,by simp[sr.len],λ j q ej=>?_⟩
 by_cases qk:i=j
 ·subst qk
  have hl:i < s.length:=by have:=(List.getElem?_eq_some_iff.mp ej).1;simpa using this
  rw[List.getElem?_set_self hl]at ej
  cases ej
  exact⟨a,e,k⟩
 ·rw[List.getElem?_set_ne qk]at ej
  obtain⟨b,e1,q1⟩:=sr.obj j q ej
  refine⟨b,e1,q1.up up.toGr (ah λ z=>qk ?_)⟩
  subst z
  have h1:=(List.getElem?_eq_some_iff.mp e)
  have h2:=(List.getElem?_eq_some_iff.mp e1)
  exact(List.getElem_inj sr.nd).mp (h1.2.trans h2.2.symm)
theorem Out.a7 {α β:Type}{rl:Rl α β}{ρ:List Addr}{H:Hp}{c:Prop}{_:Decidable c}{r:R α}{Q:β->Hp->Prop}(h:Out T XE rl ρ H (if c then r else .bad) Q):c/\Out T XE rl ρ H r Q:=by
 by_cases hc:c
 ·rw[if_pos hc]at h;exact⟨hc,h⟩
 ·rw[if_neg hc]at h;exact h.elim
def need {α γ:Type}(o:Option γ)(f:γ->R α):R α:=match o with
 | some x=>f x
 | none=>.bad
@[simp] theorem aj {α γ:Type}(x:γ) (f:γ->R α):need (some x) f=f x:=rfl
theorem Out.ao {α β γ:Type}{rl:Rl α β}{ρ:List Addr}{H:Hp}{o:Option γ}{f:γ->R α}{Q:β->Hp->Prop}(h:Out T XE rl ρ H (need o f) Q):∃ x,o=some x/\Out T XE rl ρ H (f x) Q:=by
 cases o with
 | none=>exact h.elim
 | some x=>exact⟨x,rfl,h⟩
def ak (s:S)(i:Nat):Option (List AV):=match s[i]? with
 | some (.lst xs)=>some xs
 | _=>none
theorem aw {s:S}{i:Nat}{xs:List AV}(h:ak s i=some xs):s[i]? = some (.lst xs):=by
 unfold ak at h
 split at h
 ·cases h;assumption
 ·cases h
theorem cC {s:S}{i:Nat}{xs:List AV}(h:s[i]? = some (.lst xs)):ak s i=some xs:=by
 unfold ak;rw[h]
def cZ:AV->AV->S->R AV
 | .int i,.int j,s=>.ok (.int (i+j)) s
 | .str x,.str y,s=>if x.length+y.length<=sizeLine then .ok (.str (x++y)) s else .bad
 | .tup xs,.tup ys,s=>if ys≠[]/\xs.length+ys.length<=sizeLine then .ok (.tup (xs++ys)) s else .bad
 | .ref i,.ref j,s=>need (ak s i) λ xs=>need (ak s j) λ ys=>if xs.length+ys.length<=sizeLine then .ok (.ref s.length) (s++[.lst (xs++ys)]) else .bad
 | _,_,_=>.bad
theorem aJ.ne {ρ:List Addr}{H:Hp}{l:List AV}{xs:List V}(h:aJ T ρ H l xs)(k:l≠[]):xs≠[]:=by
 intro z
 have:=h.length
 rw[z]at this
 exact k (List.length_eq_zero_iff.mp this)
theorem OR.lst {ρ:List Addr}{H:Hp}{a:Addr}{xs:List AV}{vs:List V}(h:H a=some (.lst vs)) (k:aJ T ρ H xs vs):OR T ρ H (.lst xs) a:=⟨vs,h,k⟩
theorem OW (hK:X.K=T.K):hU X (binaryOp .Add) (qj T XE cZ):=by
 intro pins s σ H x y v u Q I rx ry ⟨ρ,a,b,st,sr,va,vb,ho⟩
 cases a<;>cases b<;>try exact ho.elim
 ·exact HD pins s σ H x y v u Q I rx ry ⟨_,_,va.int_inv,vb.int_inv,ho.aK sr dZ⟩
 ·obtain⟨hl,ho⟩:=ho.a7
  exact vI pins s σ H x y v u Q I rx ry ⟨_,_,va.str_inv,vb.str_inv,hl,ho.aK sr gQ⟩
 ·obtain⟨hl,ho⟩:=ho.a7
  obtain⟨p,vs,rfl,h1,k1⟩:=va.cK
  obtain⟨q,ws,rfl,h2,k2⟩:=vb.cK
  refine Av pins s σ H (.ref p) (.ref q) v u Q I rx ry ⟨p,q,vs,ws,rfl,rfl,hK ▸ h1,hK ▸ h2,k2.ne hl.1,by rw[<-k1.length,<-k2.length];exact hl.2,λ hx=>?_,λ _ r hr=>ho.tup sr hr (k1.append k2)⟩
  have EU:vs=[]:=hx
  subst EU
  exact ho.aK sr (jJ h2 (k1.append k2))
 ·obtain⟨xs,e1,ho⟩:=ho.ao
  obtain⟨ys,e2,ho⟩:=ho.ao
  obtain⟨hl,ho⟩:=ho.a7
  obtain⟨p,vs,rfl,_,h1,k1⟩:=sr.eA (aw e1) va
  obtain⟨q,ws,rfl,_,h2,k2⟩:=sr.eA (aw e2) vb
  refine HC pins s σ H (.ref p) (.ref q) v u Q I rx ry ⟨p,q,vs,ws,rfl,rfl,h1,h2,by rw[<-k1.length,<-k2.length];exact hl,λ r hr=>ho.alloc sr hr ?_⟩
  exact OR.lst av (aJ.gr ((sr.d_ hr).add hr).toGr (k1.append k2))
def KQ:AV->AV->S->R AV
 | .int i,.int j,s=>.ok (.int (i - j)) s
 | _,_,_=>.bad
noncomputable def jQ:AV->AV->S->R AV
 | .int i,.int j,s=>if CO i/\CO j then .ok (.int (i * j)) s else .bad
 | _,_,_=>.bad
theorem OT:hU X (binaryOp .Mult) (qj T XE jQ):=by
 intro pins s σ H x y v u Q I rx ry ⟨ρ,a,b,st,sr,va,vb,ho⟩
 cases a<;>cases b<;>try exact ho.elim
 obtain⟨hl,ho⟩:=ho.a7
 exact DT pins s σ H x y v u Q I rx ry ⟨_,_,va.int_inv,vb.int_inv,⟨hl.1.f,hl.2.f⟩,ho.aK sr dZ⟩
noncomputable def mZ:AV->AV->S->R AV
 | .int i,.int j,s=>if j≠0/\JA j then .ok (.int (i.fdiv j)) s else .bad
 | _,_,_=>.bad
theorem K7:hU X (binaryOp .FloorDiv) (qj T XE mZ):=by
 intro pins s σ H x y v u Q I rx ry ⟨ρ,a,b,st,sr,va,vb,ho⟩
 cases a<;>cases b<;>try exact ho.elim
 obtain⟨hl,ho⟩:=ho.a7
 exact Au pins s σ H x y v u Q I rx ry ⟨_,_,va.int_inv,vb.int_inv,⟨hl.1,hl.2.f⟩,ho.aK sr dZ⟩
def hW:AV->AV->S->R AV
 | .int i,.int j,s=>if j≠0 then .ok (.int (i.fmod j)) s else .bad
 | _,_,_=>.bad
theorem oMod:hU X (binaryOp .Mod) (qj T XE hW):=by
 intro pins s σ H x y v u Q I rx ry ⟨ρ,a,b,st,sr,va,vb,ho⟩
 cases a<;>cases b<;>try exact ho.elim
 obtain⟨hl,ho⟩:=ho.a7
 exact DU pins s σ H x y v u Q I rx ry ⟨_,_,va.int_inv,vb.int_inv,hl,ho.aK sr dZ⟩
instance {i j:Int}:Decidable (FH i j):=inferInstanceAs (Decidable (0<=j/\j<=1000000/\i.natAbs < 2 ^ 64))
def wQ:AV->AV->S->R AV
 | .int i,.int j,s=>if FH i j then .ok (.int (i ^ j.toNat)) s else .bad
 | _,_,_=>.bad
theorem OP:hU X (binaryOp .Pow) (qj T XE wQ):=by
 intro pins s σ H x y v u Q I rx ry ⟨ρ,a,b,st,sr,va,vb,ho⟩
 cases a<;>cases b<;>try exact ho.elim
 obtain⟨hl,ho⟩:=ho.a7
 exact Hy pins s σ H x y v u Q I rx ry ⟨_,_,va.int_inv,vb.int_inv,hl,ho.aK sr dZ⟩
def wR:AV->S->R AV
 | .int i,s=>.ok (.int (-i)) s
 | _,_=>.bad
theorem OQ:M_ X (unaryOp .USub) (OI T XE wR):=by
 intro pins s σ H x v Q I rx ⟨ρ,a,st,sr,va,ho⟩
 cases a<;>try exact ho.elim
 exact GC pins s σ H x v Q I rx ⟨_,va.int_inv,ho.aK sr dZ⟩
def Ax:AV->AV->S->R AV
 | .int i,.int j,s=>.ok (.bl (decide (i < j))) s
 | .str i,.str j,s=>.ok (.bl (decide (i.cps.toList < j.cps.toList))) s
 | _,_,_=>.bad
theorem oLt:hU X (compareOp .Lt) (qj T XE Ax):=by
 intro pins s σ H x y v u Q I rx ry ⟨ρ,a,b,st,sr,va,vb,ho⟩
 cases a<;>cases b<;>try exact ho.elim
 ·exact KL pins s σ H x y v u Q I rx ry ⟨_,_,va.int_inv,vb.int_inv,ho.aK sr dm⟩
 ·exact yg pins s σ H x y v u Q I rx ry ⟨_,_,va.str_inv,vb.str_inv,ho.aK sr dm⟩
def ON:AV->AV->S->R AV
 | .int i,.int j,s=>.ok (.bl (decide (i<=j))) s
 | _,_,_=>.bad
def vJ:AV->AV->S->R AV
 | .int i,.int j,s=>.ok (.bl (decide (j < i))) s
 | _,_,_=>.bad
theorem QJ:hU X (compareOp .Gt) (qj T XE vJ):=by
 intro pins s σ H x y v u Q I rx ry ⟨ρ,a,b,st,sr,va,vb,ho⟩
 cases a<;>cases b<;>try exact ho.elim
 exact KN pins s σ H x y v u Q I rx ry ⟨_,_,va.int_inv,vb.int_inv,ho.aK sr dm⟩
def Az:AV->AV->S->R AV
 | .int i,.int j,s=>.ok (.bl (decide (j<=i))) s
 | _,_,_=>.bad
theorem QK:hU X (compareOp .GtE) (qj T XE Az):=by
 intro pins s σ H x y v u Q I rx ry ⟨ρ,a,b,st,sr,va,vb,ho⟩
 cases a<;>cases b<;>try exact ho.elim
 exact KO pins s σ H x y v u Q I rx ry ⟨_,_,va.int_inv,vb.int_inv,ho.aK sr dm⟩
def toD:Nat->S->AV->Option Dt
 | _,_,.az=>some .az
 | _,_,.bl b=>some (.bl b)
 | _,_,.int b=>some (.int b)
 | _,_,.str b=>some (.str b)
 | n+1,s,.tup xs=>(xs.mapM (toD n s)).map .tup
 | n+1,s,.sq xs=>(xs.mapM (toD n s)).map .lst
 | n+1,s,.ref i=>(ak s i).bind λ xs=>(xs.mapM (toD n s)).map .lst
 | _,_,_=>none
theorem vR {α β:Type}{f:α->Option β}{a:α}{l:List α}{r:List β}(h:(a :: l).mapM f=some r):∃ b q,f a=some b/\l.mapM f=some q/\r=b :: q:=by
 rw[List.mapM_cons]at h
 cases e1:f a with
 | none=>rw[e1]at h;cases h
 | some b=>
  cases e2:l.mapM f with
  | none=>rw[e1,e2]at h;cases h
  | some q=>rw[e1,e2]at h;cases h;exact⟨b,q,rfl,rfl,rfl⟩
theorem oP {ρ:List Addr}{H:Hp}{f:AV->Option Dt}(hf:∀ v d x,f v=some d->VR T ρ H v x->Rep T.K (λ _=>False) H d x):∀ {xs:List AV}{l:List Dt}{vs:List V},xs.mapM f=some l->aJ T ρ H xs vs->di T.K (λ _=>False) H l vs
 | [],l,vs,h,k=>by
  rw[List.mapM_nil]at h
  cases h
  unfold di
  exact k.nil_inv
 | a :: r,l,vs,h,k=>by
  obtain⟨b,q,h1,h2,rfl⟩:=vR h
  obtain⟨x,ys,rfl,k1,k2⟩:=k.cons_inv
  unfold di
  exact⟨x,ys,rfl,hf a b x h1 k1,oP hf h2 k2⟩
theorem lu {ρ:List Addr}{H:Hp}{s:S}(sr:SR T ρ s H):∀ (n:Nat) (v:AV) (d:Dt) (x:V),toD n s v=some d->VR T ρ H v x->Rep T.K (λ _=>False) H d x
 | n,.az,d,x,h,k=>by
  have h:some Dt.az=some d:=by cases n<;>exact h
  cases h;unfold Rep;exact k.gH
 | n,.bl b,d,x,h,k=>by
  have h:some (Dt.bl b)=some d:=by cases n<;>exact h
  cases h;unfold Rep;exact k.g8
 | n,.int b,d,x,h,k=>by
  have h:some (Dt.int b)=some d:=by cases n<;>exact h
  cases h;unfold Rep;exact k.int_inv
 | n,.str b,d,x,h,k=>by
  have h:some (Dt.str b)=some d:=by cases n<;>exact h
  cases h;unfold Rep;exact k.str_inv
 | 0,.tup xs,d,x,h,k=>by cases h
 | 0,.sq xs,d,x,h,k=>by cases h
 | 0,.ref xs,d,x,h,k=>by cases h
 | n+1,.tup xs,d,x,h,k=>by
  have h:(xs.mapM (toD n s)).map Dt.tup=some d:=h
  obtain⟨a,vs,rfl,h1,k1⟩:=k.cK
  cases e:xs.mapM (toD n s) with
  | none=>rw[e]at h;cases h
  | some l=>
   rw[e]at h;cases h
   unfold Rep
   exact⟨a,vs,rfl,λ z=>z,h1,oP (λ v d x=>lu sr n v d x) e k1⟩
 | n+1,.sq xs,d,x,h,k=>by
  have h:(xs.mapM (toD n s)).map Dt.lst=some d:=h
  obtain⟨a,vs,rfl,h1,k1⟩:=k.fZ
  cases e:xs.mapM (toD n s) with
  | none=>rw[e]at h;cases h
  | some l=>
   rw[e]at h;cases h
   unfold Rep
   exact⟨a,vs,rfl,λ z=>z,h1.xW,oP (λ v d x=>lu sr n v d x) e k1⟩
 | n+1,.ref i,d,x,h,k=>by
  have h:(ak s i).bind (λ xs=>(xs.mapM (toD n s)).map Dt.lst)=some d:=h
  cases e0:ak s i with
  | none=>rw[e0]at h;cases h
  | some xs=>
   rw[e0]at h
   have h:(xs.mapM (toD n s)).map Dt.lst=some d:=h
   obtain⟨a,vs,rfl,_,h1,k1⟩:=sr.eA (aw e0) k
   cases e:xs.mapM (toD n s) with
   | none=>rw[e]at h;cases h
   | some l=>
    rw[e]at h;cases h
    unfold Rep
    exact⟨a,vs,rfl,λ z=>z,fh.of h1,oP (λ v d x=>lu sr n v d x) e k1⟩
def BW (s:S):AV->AV->Option Bool
 | .az,.az=>some true
 | .az,.int _=>some false|.int _,.az=>some false|.az,.bl _=>some false|.bl _,.az=>some false|.az,.str _=>some false|.str _,.az=>some false
 | .int i,.int j=>some (decide (i=j))
 | .bl i,.bl j=>some (decide (i=j))
 | .str i,.str j=>some (decide (i=j))
 | .int _,.str _=>some false|.str _,.int _=>some false|.bl _,.str _=>some false|.str _,.bl _=>some false
 | v,w=>match toD 20 s v,toD 20 s w with
  | some (.tup l),some (.tup q)=>if dh l<=20 then some (g6 l q) else none
  | some (.lst l),some (.lst q)=>if dh l<=20 then some (g6 l q) else none
  | _,_=>none
def dM (v w:AV)(s:S):R AV:=need (BW s v w) λ b=>.ok (.bl b) s
def ou (v w:AV)(s:S):R AV:=need (BW s v w) λ b=>.ok (.bl (!b)) s
def Cv (s:S)(v w:AV)(b:Bool):Prop:=∃ (c:Bool) (l q:List Dt),toD 20 s v=some (if c then .tup l else .lst l)/\toD 20 s w=some (if c then .tup q else .lst q)/\dh l<=20/\b=g6 l q
theorem yE {s:S}{v w:AV}{b:Bool}(h:(match toD 20 s v,toD 20 s w with
  | some (.tup l),some (.tup q)=>if dh l<=20 then some (g6 l q) else none
  | some (.lst l),some (.lst q)=>if dh l<=20 then some (g6 l q) else none
  | _,_=>none)=some b):Cv s v w b:=by
 split at h
 ·rename_i l q e1 e2
  split at h
  ·rename_i hd
   cases h
   exact⟨true,l,q,e1,e2,hd,rfl⟩
  ·cases h
 ·rename_i l q e1 e2
  split at h
  ·rename_i hd
   cases h
   exact⟨false,l,q,e1,e2,hd,rfl⟩
  ·cases h
 ·cases h
theorem uV {ρ:List Addr}{H:Hp}{s:S}{v w:AV}{b:Bool}{x y:V}(h:BW s v w=some b)(va:VR T ρ H v x)(vb:VR T ρ H w y):(GU x y=true/\decide (x=y)=b)∨Cv s v w b:=by
  cases v<;>cases w<;>first
    | exact .inr (yE h)
    | (refine .inl ?_
       have h:some _=some b:=h
       cases h
       first
         | cases va.gH|cases va.int_inv|cases va.g8|cases va.str_inv
       first
         | cases vb.gH|cases vb.int_inv|cases vb.g8|cases vb.str_inv
       refine⟨rfl,?_⟩
       first
         | rfl
         | simp)
theorem oEq (hK:X.K=T.K)(hu:X.A.units+30 < cLine):hU X (compareOp .Eq) (qj T XE dM):=by
 intro pins s σ H x y v u Q I rx ry ⟨ρ,a,b,st,sr,va,vb,ho⟩
 obtain⟨c,e,ho⟩:=ho.ao
 rcases uV e va vb with⟨h1,h2⟩|⟨t,l,q,e1,e2,hd,rfl⟩
 ·exact KP pins s σ H x y v u Q I rx ry ⟨h1,by rw[h2];exact ho.aK sr dm⟩
 ·refine HB hu pins s σ H x y v u Q I rx ry ⟨λ _=>False,λ _=>False,l,q,t,⟨?_,?_⟩,hd,ho.aK sr dm⟩
  ·exact hK ▸ lu sr 20 _ _ _ e1 va
  ·exact hK ▸ lu sr 20 _ _ _ e2 vb
theorem OS (hK:X.K=T.K)(hu:X.A.units+30 < cLine):hU X (compareOp .NotEq) (qj T XE ou):=by
 intro pins s σ H x y v u Q I rx ry ⟨ρ,a,b,st,sr,va,vb,ho⟩
 obtain⟨c,e,ho⟩:=ho.ao
 rcases uV e va vb with⟨h1,h2⟩|⟨t,l,q,e1,e2,hd,rfl⟩
 ·exact KJ pins s σ H x y v u Q I rx ry ⟨h1,by rw[h2];exact ho.aK sr dm⟩
 ·refine Hz hu pins s σ H x y v u Q I rx ry ⟨λ _=>False,λ _=>False,l,q,t,⟨?_,?_⟩,hd,ho.aK sr dm⟩
  ·exact hK ▸ lu sr 20 _ _ _ e1 va
  ·exact hK ▸ lu sr 20 _ _ _ e2 vb
def h_:AV->Bool
 | .az=>true
 | _=>false
def jR:AV->AV->S->R AV
 | v,.az,s=>.ok (.bl (h_ v)) s
 | _,_,_=>.bad
def DW:AV->AV->S->R AV
 | v,.az,s=>.ok (.bl (!h_ v)) s
 | .bl a,.bl b,s=>.ok (.bl (a != b)) s
 | _,_,_=>.bad
theorem Bn {ρ:List Addr}{H:Hp}{v:AV}{x:V}(h:VR T ρ H v x):decide (x=.az)=h_ v:=by
 cases v
 ·cases h.gH;rfl
 ·cases h.g8;rfl
 ·cases h.int_inv;rfl
 ·cases h.str_inv;rfl
 ·obtain⟨_,_,rfl,_⟩:=h.cK;rfl
 ·obtain⟨_,_,rfl⟩:=h.fN;rfl
 ·obtain⟨_,_,rfl,_⟩:=h.fZ;rfl
theorem K0:hU X (compareOp .Is) (qj T XE jR):=by
 intro pins s σ H x y v u Q I rx ry ⟨ρ,a,b,st,sr,va,vb,ho⟩
 cases b<;>try (cases a<;>exact ho.elim)
 exact HA pins s σ H x y v u Q I rx ry ⟨vb.gH,by rw[Bn va];cases a<;>exact ho.aK sr dm⟩
end
end Mm
namespace Mm
open PySem L2
section
variable {T:Tx}{XE:gI}{X:Cx}{pos:Pos}
def ag:dY:=λ _ s=>.ok [] s
def aa (a:Ev)(r:dY):dY:=λ env s=>(a env s).bind λ v s1=>(r env s1).bind λ vs s2=>.ok (v :: vs) s2
theorem wM:PA X [] (tP T XE ag):=PA.imp fC λ σ H Q ⟨ρ,env,s,hs,he,ho⟩=>ho.here (x:=[]) hs (aJ.nil (T:=T) (ρ:=ρ) (H:=H))
theorem ux {e:Expr}{es:List Expr}{m:Ev}{r:dY}(ha:PE X e (tE T XE m)) (hr:PA X es (tP T XE r)) (hs:starEach (e :: es) X.env=(false,eval e X.env) :: starEach es X.env:=by rfl):PA X (e :: es) (tP T XE (aa m r)):=
 PA.imp (cf ha hr hs) λ σ H Q ⟨ρ,env,s,hs,he,ho⟩=>
  step hs he ho λ v s1 ρ1 H1 x _ u1 aL cb aI ay=>step aL cb ay λ w s2 ρ2 H2 y _ u2 fA lQ iz cU=>cU.here fA (aJ.cons (VR.up u2 aI) iz)
def jj (r:dY):Ev:=λ env s=>(r env s).bind λ vs s1=>if vs.length<=sizeLine then .ok (.tup vs) s1 else .bad
theorem Ic {es:List Expr}{k:Nat}{r:dY}(h:PA X es (tP T XE r)):PE X (.Tuple es k pos) (tE T XE (jj r)):=
 PE.imp (Ae h) λ σ H Q ⟨ρ,env,s,hs,he,ho⟩=>step hs he ho λ v s1 ρ1 H1 x _ u1 aL cb aI ay=>by
  obtain⟨hl,ay⟩:=ay.a7
  have aI:aJ T ρ1 H1 v x:=aI
  exact⟨by rw[<-aI.length];exact hl,λ p hp=>ay.tup aL hp aI⟩
def dc (r:dY):dY:=λ env s=>(r env s).bind λ vs s1=>if vs.length<=sizeLine then .ok vs s1 else .bad
theorem HX {es:List Expr}{r:dY}(h:PA X es (tP T XE r)):PE X (.List es pos) (tL T XE (dc r)):=
 PE.imp (Hr h) λ σ H Q ⟨ρ,env,s,hs,he,ho⟩=>step hs he ho λ v s1 ρ1 H1 x _ u1 aL cb aI ay=>by
  obtain⟨hl,ay⟩:=ay.a7
  have aI:aJ T ρ1 H1 v x:=aI
  exact⟨by rw[<-aI.length];exact hl,λ p hp=>ay.lst aL hp aI⟩
def aR (r:dY):Ev:=λ env s=>(r env s).bind λ vs s1=>.ok (.ref s1.length) (s1++[.lst vs])
theorem Ij {e:Expr}{r:dY}(h:PE X e (tL T XE r)):PE X e (tE T XE (aR r)):=
 PE.imp h λ σ H Q ⟨ρ,env,s,hs,he,ho⟩=>by
  refine⟨ρ,env,s,hs,he,?_⟩
  unfold aR at ho
  cases e:r env s with
  | bad=>rw[e]at ho;exact ho
  | ex c s1=>rw[e]at ho;exact ho
  | ok vs s1=>
   rw[e]at ho
   intro ρ1 H1 x u sr ⟨a,ws,e1,h0,h1,h2,k⟩
   subst e1
   have g:Gr ρ1 H1 (ρ1++[a]) H1:=⟨List.prefix_append _ _,λ _ _ z=>z,λ _ _ _ z=>z⟩
   refine ho (ρ1++[a]) H1 (.ref a) (u.add h0) (sr.add h1 (OR.lst h2 (k.gr g))) (lh (T:=T) (H:=H1) ?_)
   rw[List.getElem?_append_right (by rw[sr.len];exact Nat.le_refl _),sr.len,Nat.sub_self];rfl
def items (v:AV)(s:S):Option (List AV):=match v with
 | .tup xs=>some xs
 | .sq xs=>some xs
 | .ref i=>ak s i
 | _=>none
theorem kF {ρ:List Addr}{H:Hp}{s:S}{v:AV}{xs:List AV}{x:V}(h:items v s=some xs)(sr:SR T ρ s H)(va:VR T ρ H v x):∃ a vs,x=.ref a/\(fh T.K H a vs∨hR T.K H a vs)/\aJ T ρ H xs vs:=by
 cases v<;>try cases h
 ·obtain⟨a,vs,rfl,h1,k⟩:=va.cK
  exact⟨a,vs,rfl,.inr h1,k⟩
 ·obtain⟨a,vs,rfl,_,h1,k⟩:=sr.eA (aw h) va
  exact⟨a,vs,rfl,.inl (fh.of h1),k⟩
 ·obtain⟨a,vs,rfl,h1,k⟩:=va.fZ
  exact⟨a,vs,rfl,.inl h1.xW,k⟩
def EH (m:Ev):dY:=λ env s=>(m env s).bind λ v s1=>need (items v s1) λ xs=>.ok xs s1
theorem HW {e:Expr}{m:Ev}(h:PE X e (tE T XE m)):PE X e (tQ T XE (EH m)):=
 PE.imp h λ σ H Q ⟨ρ,env,s,hs,he,ho⟩=>step hs he ho λ v s1 ρ1 H1 x _ u1 aL cb aI ay=>by
  obtain⟨xs,e,ay⟩:=ay.ao
  exact ay ρ1 H1 x .refl aL (kF e aL aI)
mutual
def AV.low (b:Nat):AV->Bool
 | .ref i=>decide (i < b)
 | .tup xs=>aG b xs
 | .sq xs=>aG b xs
 | _=>true
def aG (b:Nat):List AV->Bool
 | []=>true
 | v :: r=>v.low b && aG b r
end
mutual
theorem VR.cut {ρ ρ':List Addr}{H:Hp}{b:Nat}(e:ρ'.take b=ρ):∀ {v:AV}{x:V},v.low b=true->VR T ρ' H v x->VR T ρ H v x
 | .az,_,_,h=>by unfold VR at *;exact h
 | .bl _,_,_,h=>by unfold VR at *;exact h
 | .int _,_,_,h=>by unfold VR at *;exact h
 | .str _,_,_,h=>by unfold VR at *;exact h
 | .ref i,_,k,h=>by
  obtain⟨a,e1,rfl⟩:=h.fN
  unfold AV.low at k
  exact lh (by rw[<-e,List.getElem?_take_of_lt (of_decide_eq_true k)];exact e1)
 | .tup xs,_,k,h=>by
  obtain⟨a,vs,rfl,h1,h2⟩:=h.cK
  unfold AV.low at k
  exact jJ h1 (aJ.cut e k h2)
 | .sq xs,_,k,h=>by
  obtain⟨a,vs,rfl,h1,h2⟩:=h.fZ
  unfold AV.low at k
  unfold VR
  exact⟨a,vs,rfl,h1,aJ.cut e k h2⟩
theorem aJ.cut {ρ ρ':List Addr}{H:Hp}{b:Nat}(e:ρ'.take b=ρ):∀ {v:List AV}{x:List V},aG b v=true->aJ T ρ' H v x->aJ T ρ H v x
 | [],_,_,h=>by cases h.nil_inv;exact .nil
 | _ :: _,_,k,h=>by
  obtain⟨x,ys,rfl,h1,h2⟩:=h.cons_inv
  unfold aG at k
  rw[Bool.and_eq_true]at k
  exact .cons (VR.cut e k.1 h1) (aJ.cut e k.2 h2)
end
mutual
theorem VR.low {ρ:List Addr}{H:Hp}:∀ {v:AV}{x:V},VR T ρ H v x->v.low ρ.length=true
 | .az,_,_=>by unfold AV.low;rfl
 | .bl _,_,_=>by unfold AV.low;rfl
 | .int _,_,_=>by unfold AV.low;rfl
 | .str _,_,_=>by unfold AV.low;rfl
 | .ref i,_,h=>by
  obtain⟨a,e1,rfl⟩:=h.fN
  unfold AV.low
  exact decide_eq_true (List.getElem?_eq_some_iff.mp e1).1
 | .tup xs,_,h=>by
  obtain⟨a,vs,rfl,h1,h2⟩:=h.cK
  unfold AV.low
  exact aJ.low h2
 | .sq xs,_,h=>by
  obtain⟨a,vs,rfl,h1,h2⟩:=h.fZ
  unfold AV.low
  exact aJ.low h2
theorem aJ.low {ρ:List Addr}{H:Hp}:∀ {v:List AV}{x:List V},aJ T ρ H v x->aG ρ.length v=true
 | [],_,_=>by unfold aG;rfl
 | _ :: _,_,h=>by
  obtain⟨x,ys,rfl,h1,h2⟩:=h.cons_inv
  unfold aG
  rw[VR.low h1,aJ.low h2];rfl
end
def AO.low (b:Nat):AO->Bool
 | .lst xs=>aG b xs
 | .dK kvs=>aG b (kvs.map (·.2))
 | .dT kvs=>aG b (kvs.map (·.2))
 | .ins _ fs=>aG b (fs.map (·.2))
 | .exc _=>true
 | .tab _ _=>true
theorem OR.low {ρ:List Addr}{H:Hp}{o:AO}{a:Addr}(h:OR T ρ H o a):o.low ρ.length=true:=by
 cases o with
 | lst xs=>obtain⟨_,_,k⟩:=h;exact k.low
 | dK xs=>obtain⟨_,_,_,k⟩:=h;exact k.low
 | dT xs=>obtain⟨_,_,_,k⟩:=h;exact k.low
 | ins C xs=>obtain⟨_,_,_,_,k⟩:=h;exact k.low
 | exc C=>rfl
 | tab i q=>rfl
theorem OR.cut {ρ ρ':List Addr}{H:Hp}{b:Nat}(e:ρ'.take b=ρ){o:AO}{a:Addr}(k:o.low b=true)(h:OR T ρ' H o a):OR T ρ H o a:=by
 cases o with
 | lst xs=>obtain⟨vs,h1,h2⟩:=h;exact⟨vs,h1,aJ.cut e k h2⟩
 | dK xs=>obtain⟨vs,h1,q,h2⟩:=h;exact⟨vs,h1,q,aJ.cut e k h2⟩
 | dT xs=>obtain⟨vs,h1,q,h2⟩:=h;exact⟨vs,h1,q,aJ.cut e k h2⟩
 | ins C xs=>obtain⟨dx,vs,h1,q,h2⟩:=h;exact⟨dx,vs,h1,q,aJ.cut e k h2⟩
 | exc C=>exact h
 | tab i q=>exact h
theorem SR.closed {ρ:List Addr}{H:Hp}{s:S}(sr:SR T ρ s H):s.all (AO.low s.length)=true:=by
 rw[List.all_eq_true]
 intro o ho
 obtain⟨i,hi,e⟩:=List.getElem_of_mem ho
 obtain⟨a,_,q⟩:=sr.obj i o (by rw[List.getElem?_eq_getElem hi,e])
 rw[<-sr.len]
 exact q.low
theorem SR.cut {ρ ρ':List Addr}{H:Hp}{s':S}{b:Nat}(sr:SR T ρ' s' H)(hl:ρ <+: ρ')(hb:ρ.length=b)(k:(s'.take b).all (AO.low b)=true):SR T ρ (s'.take b) H:=by
 have e:ρ'.take b=ρ:=by obtain⟨t,rfl⟩:=hl;rw[<-hb,List.take_left'];rfl
 have hle:b<=s'.length:=by rw[<-hb,<-sr.len];exact hl.length_le
 refine⟨?_,by rw[List.length_take,Nat.min_eq_left hle];exact hb,λ i o ei=>?_⟩
 ·rw[<-e];exact sr.nd.sublist (List.take_sublist _ _)
 ·have hi:i < b:=by have:=(List.getElem?_eq_some_iff.mp ei).1;rw[List.length_take]at this;omega
  have S0:=ei
  rw[List.getElem?_take_of_lt hi]at ei
  obtain⟨a,e1,q⟩:=sr.obj i o ei
  refine⟨a,by rw[<-e,List.getElem?_take_of_lt hi];exact e1,q.cut e ?_⟩
  exact List.all_eq_true.mp k o (List.mem_of_getElem? S0)
theorem Up.cut {ρ ρ':List Addr}{H H':Hp}(u:Up ρ H ρ' H'):Up ρ H ρ H':=⟨⟨List.prefix_rfl,u.jC,u.iF⟩,λ b o e n=>⟨(u.fr b o e n).1,n⟩,u.live⟩
noncomputable def BD (m:Ev):Ev:=λ env s=>(m env s).bind λ v s1=>open Classical in if s1.take s.length=s/\v.low s.length=true then .ok v s else .bad
theorem Ln {e:Expr}{m:Ev}(h:PE X e (tE T XE m)):PE X e (tE T XE (BD m)):=
 PE.imp h λ σ H Q ⟨ρ,env,s,hs,he,ho⟩=>by
  refine⟨ρ,env,s,hs,he,?_⟩
  unfold BD at ho
  cases e:m env s with
  | bad=>rw[e]at ho;exact ho
  | ex c s1=>rw[e]at ho;exact ho
  | ok v s1=>
   rw[e]at ho
   obtain⟨⟨e1,e2⟩,ho⟩:=ho.a7
   intro ρ1 H1 x u sr vr
   have hc:=hs.closed
   have et:ρ1.take s.length=ρ:=by obtain⟨t,rfl⟩:=u.pre;rw[<-hs.len,List.take_left'];rfl
   refine ho ρ H1 x u.cut ?_ (VR.cut et e2 vr)
   have:=sr.cut u.pre hs.len (by rw[e1];exact hc)
   rw[e1]at this
   exact this
def Ge (m:Ev):Ev:=λ env s=>(m env s).bind λ v s1=>if (s1.take s.length).all (AO.low s.length)=true/\v.low s.length=true then .ok v (s1.take s.length) else .bad
theorem Iq {e:Expr}{m:Ev}(h:PE X e (tE T XE m)):PE X e (tE T XE (Ge m)):=
 PE.imp h λ σ H Q ⟨ρ,env,s,hs,he,ho⟩=>by
  refine⟨ρ,env,s,hs,he,?_⟩
  unfold Ge at ho
  cases e:m env s with
  | bad=>rw[e]at ho;exact ho
  | ex c s1=>rw[e]at ho;exact ho
  | ok v s1=>
   rw[e]at ho
   obtain⟨⟨e1,e2⟩,ho⟩:=ho.a7
   intro ρ1 H1 x u sr vr
   have et:ρ1.take s.length=ρ:=by obtain⟨t,rfl⟩:=u.pre;rw[<-hs.len,List.take_left'];rfl
   exact ho ρ H1 x u.cut (sr.cut u.pre hs.len e1) (VR.cut et e2 vr)
def jZ (m:Ev):dY:=λ env s=>(m env s).bind λ v s1=>match v with
 | .ref k=>need (ak s1 k) λ xs=>if s.length<=k/\(s1.take s.length).all (AO.low s.length)=true/\aG s.length xs=true then .ok xs (s1.take s.length) else .bad
 | _=>.bad
theorem Eg {e:Expr}{m:Ev}(h:PE X e (tE T XE m)):PE X e (tL T XE (jZ m)):=
 PE.imp h λ σ H Q ⟨ρ,env,s,hs,he,ho⟩=>by
  refine⟨ρ,env,s,hs,he,?_⟩
  unfold jZ at ho
  cases e:m env s with
  | bad=>rw[e]at ho;exact ho
  | ex c s1=>rw[e]at ho;exact ho
  | ok v s1=>
   rw[e]at ho
   cases v with
   | ref k=>
    obtain⟨xs,e0,ho⟩:=ho.ao
    obtain⟨⟨hk,e1,e2⟩,ho⟩:=ho.a7
    intro ρ1 H1 x u sr vr
    obtain⟨a,vs,rfl,ea,h1,k1⟩:=sr.eA (aw e0) vr
    have et:ρ1.take s.length=ρ:=by obtain⟨t,rfl⟩:=u.pre;rw[<-hs.len,List.take_left'];rfl
    have na:a∉ρ:=λ z=>by
     obtain⟨j,hj,ej⟩:=List.getElem_of_mem z
     have e3:ρ1[j]? = some a:=wI u.pre (by rw[List.getElem?_eq_getElem hj,ej])
     have h3:=List.getElem?_eq_some_iff.mp ea
     have h4:=List.getElem?_eq_some_iff.mp e3
     have:k=j:=(List.getElem_inj sr.nd).mp (h3.2.trans h4.2.symm)
     rw[hs.len]at hj
     omega
    refine ho ρ H1 (.ref a) u.cut (sr.cut u.pre hs.len e1) ⟨a,vs,rfl,?_,na,h1,aJ.cut et e2 k1⟩
    cases eH:H a with
    | none=>rfl
    | some o=>exact absurd (List.mem_of_getElem? ea) (u.fr a o eH na).2
   | az=>exact ho.elim
   | bl b=>exact ho.elim
   | int b=>exact ho.elim
   | str b=>exact ho.elim
   | tup b=>exact ho.elim
   | sq b=>exact ho.elim
end
end Mm
namespace Mm
open PySem L2
section
variable {T:Tx}{XE:gI}{X:Cx}{pos:Pos}
theorem rJ {ρ:List Addr}{H:Hp}{b:Bool}{s:S}{Q:Bool->Hp->Prop}(h:Out T XE rB ρ H (.ok b s) Q) (sr:SR T ρ s H):Q b H:=h ρ H b .refl sr rfl
def truth (v:AV)(s:S):Option Bool:=match v with
 | .az=>some false
 | .bl b=>some b
 | .int i=>some (i != 0)
 | .str x=>if x.length<=sizeLine then some ((x.length:Int) != 0) else none
 | .tup xs=>some (!xs.isEmpty)
 | .sq xs=>some (!xs.isEmpty)
 | .ref i=>match s[i]? with
  | some (.lst xs)=>some (!xs.isEmpty)
  | some (.dK xs)=>some (!xs.isEmpty)
  | _=>none
theorem aJ.emp {ρ:List Addr}{H:Hp}{l:List AV}{xs:List V}(h:aJ T ρ H l xs):l.isEmpty=xs.isEmpty:=by
 cases l with
 | nil=>cases h.nil_inv;rfl
 | cons a r=>obtain⟨x,ys,rfl,_⟩:=h.cons_inv;rfl
theorem xR {ρ:List Addr}{H:Hp}{s:S}{v:AV}{b:Bool}{x:V}(h:truth v s=some b)(sr:SR T ρ s H)(va:VR T ρ H v x):Jw T.K x H b:=by
 cases v with
 | az=>cases va.gH;cases h;rfl
 | bl c=>cases va.g8;cases h;rfl
 | int c=>cases va.int_inv;cases h;rfl
 | str c=>
  cases va.str_inv
  have h:(if c.length<=sizeLine then some ((c.length:Int) != 0) else none)=some b:=h
  split at h
  ·cases h;exact⟨by assumption,rfl⟩
  ·cases h
 | tup c=>
  obtain⟨a,vs,rfl,h1,k⟩:=va.cK
  cases h
  exact .inr (.inl ⟨vs,h1,by rw[k.emp]⟩)
 | sq c=>
  obtain⟨a,vs,rfl,h1,k⟩:=va.fZ
  cases h
  exact .inl ⟨vs,h1.xW,by rw[k.emp]⟩
 | ref i=>
  have h:(match s[i]? with
   | some (.lst xs)=>some (!xs.isEmpty)
   | some (.dK xs)=>some (!xs.isEmpty)
   | _=>none)=some b:=h
  split at h
  ·rename_i xs e
   cases h
   obtain⟨a,vs,rfl,_,h1,k⟩:=sr.eA e va
   exact .inl ⟨vs,fh.of h1,by rw[k.emp]⟩
  ·rename_i xs e
   cases h
   obtain⟨a,vs,rfl,_,h1,k1,k⟩:=sr.qE e va
   refine .inr (.inr ⟨vs,h1,?_⟩)
   have:=congrArg List.length k1
   rw[List.length_map,List.length_map]at this
   cases xs<;>cases vs<;>first|rfl|(simp at this)
  ·cases h
def cT (m:Ev):Eb:=λ env s=>(m env s).bind λ v s1=>need (truth v s1) λ b=>.ok b s1
def cB (m:Ev):Eb:=λ env s=>(m env s).bind λ v s1=>match v with
 | .bl b=>.ok b s1
 | _=>.bad
theorem OL {e:Expr}{m:Ev}(hK:X.K=T.K)(h:PE X e (tE T XE m)) (he:∀ whole,isTrue e X.env whole=(do let v <-whole;standAt e.pos;holding [v] (truthy v)):=by intro _;rfl):PT X e (iR T XE (cT m)):=
 PT.imp (zS h he) λ σ H Q ⟨ρ,env,s,hs,he,ho⟩=>step hs he ho λ v s1 ρ1 H1 x _ u1 aL cb aI ay=>by
  obtain⟨b,e,ay⟩:=ay.ao
  exact⟨b,by rw[hK];exact xR e aL aI,rJ ay aL⟩
theorem zy {m:Ev}{σ:St}{H:Hp}{Q:Bool->Hp->Prop}(h:iR T XE (cB m) σ H Q):tE T XE m σ H λ x H'=>∃ k,x=.bl k/\Q k H':=by
 obtain⟨ρ,env,s,hs,he,ho⟩:=h
 refine step hs he ho λ v s1 ρ1 H1 x _ u1 aL cb aI ay=>?_
 have aI:VR T ρ1 H1 v x:=aI
 cases v<;>try exact ay.elim
 exact⟨_,aI.g8,rJ ay aL⟩
theorem fO {o:CmpOp}{op:AV->AV->S->R AV}{a b:Expr}{m1 m2:Ev}(Bt:hU X (compareOp o) (qj T XE op)) (ha:PE X a (tE T XE m1)) (hb:PE X b (tE T XE m2)) (hm:behindInMarks o b=false:=by rfl):PT X (.Compare a [o] [b] pos) (iR T XE (cB (ae op m1 m2))):=
 PT.imp (Dw Bt ha hb hm) λ σ H Q h=>t2 (zy h)
def O5 (op RN:AV->AV->S->R AV)(a b c:Ev):Ev:=λ env s=>(a env s).bind λ v s1=>(b env s1).bind λ w s2=>(op v w s2).bind λ r s3=>match r with
 | .bl true=>(c env s3).bind λ z s4=>RN w z s4
 | .bl false=>.ok (.bl false) s3
 | _=>.bad
def Cg (a b:Eb):Eb:=λ env s=>(a env s).bind λ c s1=>if c=true then b env s1 else .ok false s1
def Cf (a b:Eb):Eb:=λ env s=>(a env s).bind λ c s1=>if c=true then .ok true s1 else b env s1
def oG (a:Eb):Eb:=λ env s=>(a env s).bind λ c s1=>.ok (!c) s1
def JF (c:Eb)(a b:Ev):Ev:=λ env s=>(c env s).bind λ k s1=>if k=true then a env s1 else b env s1
theorem pw_and1' {a:Expr}{m:Eb}(h:PT X a (iR T XE m)):PW X (.BoolOp .And [a] pos) (iR T XE m):=pw_and1 h
theorem pw_or1' {a:Expr}{m:Eb}(h:PT X a (iR T XE m)):PW X (.BoolOp .Or [a] pos) (iR T XE m):=pw_or1 h
theorem pw_and' {a b:Expr}{rest:List Expr}{m r:Eb}(h:PT X a (iR T XE m)) (k:PW X (.BoolOp .And (b :: rest) pos) (iR T XE r)):PW X (.BoolOp .And (a :: b :: rest) pos) (iR T XE (Cg m r)):=
 PW.imp (pw_and h k) λ σ H Q ⟨ρ,env,s,hs,he,ho⟩=>step hs he ho λ v s1 ρ1 H1 x _ u1 aL cb aI ay=>by
  cases (show v=x from aI)
  cases v with
  | true=>exact⟨ρ1,env,s1,aL,cb,ay⟩
  | false=>exact rJ ay aL
theorem pw_or' {a b:Expr}{rest:List Expr}{m r:Eb}(h:PT X a (iR T XE m)) (k:PW X (.BoolOp .Or (b :: rest) pos) (iR T XE r)):PW X (.BoolOp .Or (a :: b :: rest) pos) (iR T XE (Cf m r)):=
 PW.imp (pw_or h k) λ σ H Q ⟨ρ,env,s,hs,he,ho⟩=>step hs he ho λ v s1 ρ1 H1 x _ u1 aL cb aI ay=>by
  cases (show v=x from aI)
  cases v with
  | true=>exact rJ ay aL
  | false=>exact⟨ρ1,env,s1,aL,cb,ay⟩
theorem Du {a:Expr}{m:Eb}(h:PT X a (iR T XE m)):PT X (.UnaryOp .Not a pos) (iR T XE (oG m)):=
 PT.imp (G9 h) λ σ H Q ⟨ρ,env,s,hs,he,ho⟩=>step hs he ho λ v s1 ρ1 H1 x _ u1 aL cb aI ay=>by
  cases (show v=x from aI)
  exact rJ ay aL
theorem Lm {c a b:Expr}{sR:Eb}{ma mb:Ev}(hc:PT X c (iR T XE sR)) (ha:PE X a (tE T XE ma)) (hb:PE X b (tE T XE mb)):PE X (.IfExp c a b pos) (tE T XE (JF sR ma mb)):=
 PE.imp (Aj hc ha hb) λ σ H Q ⟨ρ,env,s,hs,he,ho⟩=>step hs he ho λ v s1 ρ1 H1 x _ u1 aL cb aI ay=>by
  cases (show v=x from aI)
  cases v with
  | true=>exact⟨ρ1,env,s1,aL,cb,ay⟩
  | false=>exact⟨ρ1,env,s1,aL,cb,ay⟩
def sS (a b:Ev):Ev:=λ env s=>(a env s).bind λ v s1=>match v with
 | .bl true=>b env s1
 | .bl false=>.ok (.bl false) s1
 | _=>.bad
def Nt (a b:Ev):Ev:=λ env s=>(a env s).bind λ v s1=>match v with
 | .bl true=>.ok (.bl true) s1
 | .bl false=>b env s1
 | _=>.bad
def qZ:AV->S->R AV
 | .bl b,s=>.ok (.bl (!b)) s
 | _,_=>.bad
theorem Ig {op:BoolOp}{a:Expr}{m:Ev}(h:PE X a (tE T XE m)):PE X (.BoolOp op [a] pos) (tE T XE m):=Hn h
theorem Iw {a b:Expr}{rest:List Expr}{m r:Ev}(h:PE X a (tE T XE m)) (k:PE X (.BoolOp .And (b :: rest) pos) (tE T XE r)):PE X (.BoolOp .And (a :: b :: rest) pos) (tE T XE (sS m r)):=
 PE.imp (Hw h k) λ σ H Q ⟨ρ,env,s,hs,he,ho⟩=>step hs he ho λ v s1 ρ1 H1 x _ u1 aL cb aI ay=>by
  have aI:VR T ρ1 H1 v x:=aI
  cases v<;>try exact ay.elim
  rename_i b _ _
  refine⟨b,aI.g8,?_⟩
  cases b with
  | true=>exact⟨ρ1,env,s1,aL,cb,ay⟩
  | false=>exact ay.aK aL dm
theorem Lk {a b:Expr}{rest:List Expr}{m r:Ev}(h:PE X a (tE T XE m)) (k:PE X (.BoolOp .Or (b :: rest) pos) (tE T XE r)):PE X (.BoolOp .Or (a :: b :: rest) pos) (tE T XE (Nt m r)):=
 PE.imp (KA h k) λ σ H Q ⟨ρ,env,s,hs,he,ho⟩=>step hs he ho λ v s1 ρ1 H1 x _ u1 aL cb aI ay=>by
  have aI:VR T ρ1 H1 v x:=aI
  cases v<;>try exact ay.elim
  rename_i b _ _
  refine⟨b,aI.g8,?_⟩
  cases b with
  | true=>exact ay.aK aL dm
  | false=>exact⟨ρ1,env,s1,aL,cb,ay⟩
theorem Ih {a:Expr}{m:Ev}(h:PE X a (tE T XE m)):PE X (.UnaryOp .Not a pos) (tE T XE (cA qZ m)):=
 PE.imp (Ho h) λ σ H Q ⟨ρ,env,s,hs,he,ho⟩=>step hs he ho λ v s1 ρ1 H1 x _ u1 aL cb aI ay=>by
  have aI:VR T ρ1 H1 v x:=aI
  cases v<;>try exact ay.elim
  exact⟨_,aI.g8,ay.aK aL dm⟩
theorem aJ.jx {ρ:List Addr}{H:Hp}{l:List AV}{xs:List V}{i:Int}{v:AV}(h:aJ T ρ H l xs)(e:jx l i=some v):∃ x,L2.jx xs i=some x/\VR T ρ H v x:=by
 unfold L2.jx at *
 rw[<-h.length]
 cases e1:xb l.length i with
 | none=>rw[e1]at e;cases e
 | some j=>rw[e1]at e;exact h.get e
def bj:AV->AV->S->R AV
 | .tup xs,.int i,s=>need (jx xs i) λ v=>.ok v s
 | .sq xs,.int i,s=>need (jx xs i) λ v=>.ok v s
 | .ref k,.int i,s=>need (ak s k) λ xs=>need (jx xs i) λ v=>.ok v s
 | .str z,.int i,s=>if z.length<=sizeLine then need (jx z.cps.toList i) λ c=>.ok (.str ⟨#[c]⟩) s else .bad
 | _,_,_=>.bad
theorem RQ (hK:X.K=T.K):JT X (qj T XE bj):=by
 intro value slice pins s σ H x y v u Q I rx ry ⟨ρ,a,b,st,sr,va,vb,ho⟩ hs
 cases a<;>cases b<;>try exact ho.elim
 ·obtain⟨hl,ho⟩:=ho.a7
  obtain⟨c,e,ho⟩:=ho.ao
  exact IP value slice pins s σ H x y v u Q I rx ry ⟨_,_,c,va.str_inv,vb.int_inv,hl,e,ho.aK sr gQ⟩ hs
 ·obtain⟨c,e,ho⟩:=ho.ao
  obtain⟨p,vs,rfl,h1,k⟩:=va.cK
  obtain⟨z,e2,k2⟩:=k.jx e
  exact IM value slice pins s σ H _ y v u Q I rx ry ⟨p,vs,_,z,rfl,vb.int_inv,hK ▸ h1,e2,ho.aK sr k2⟩ hs
 ·obtain⟨xs,e0,ho⟩:=ho.ao
  obtain⟨c,e,ho⟩:=ho.ao
  obtain⟨p,vs,rfl,_,h1,k⟩:=sr.eA (aw e0) va
  obtain⟨z,e2,k2⟩:=k.jx e
  exact w_ value slice pins s σ H _ y v u Q I rx ry ⟨p,vs,_,z,rfl,vb.int_inv,fh.of h1,e2,ho.aK sr k2⟩ hs
 ·obtain⟨c,e,ho⟩:=ho.ao
  obtain⟨p,vs,rfl,h1,k⟩:=va.fZ
  obtain⟨z,e2,k2⟩:=k.jx e
  exact w_ value slice pins s σ H _ y v u Q I rx ry ⟨p,vs,_,z,rfl,vb.int_inv,hK ▸ h1.xW,e2,ho.aK sr k2⟩ hs
abbrev Eo:=En->S->R (Option Int)
def rO:Rl (Option Int) (Option Int):=⟨λ _ _ _ a b=>a=b,λ _ h=>h⟩
abbrev tO (T:Tx)(XE:gI)(m:Eo):TO:=tG T XE rO m
def oN:Eo:=λ _ s=>.ok none s
def oS (m:Ev):Eo:=λ env s=>(m env s).bind λ v s1=>match v with
 | .int i=>.ok (some i) s1
 | _=>.bad
theorem PO.imp {e:Option Expr}{t t':TO}(h:PO X e t)(k:∀ σ H Q,t' σ H Q->t σ H Q):PO X e t':=λ pins s σ H Q I hq=>h pins s σ H Q I (k σ H Q hq)
theorem z9:PO X none (tO T XE oN):=PO.imp DE λ σ H Q ⟨ρ,env,s,hs,he,ho⟩=>ho ρ H none .refl hs rfl
theorem z0 {e:Expr}{m:Ev}(h:PE X e (tE T XE m)):PO X (some e) (tO T XE (oS m)):=
 PO.imp (DD h) λ σ H Q ⟨ρ,env,s,hs,he,ho⟩=>step hs he ho λ v s1 ρ1 H1 x _ u1 aL cb aI ay=>by
  have aI:VR T ρ1 H1 v x:=aI
  cases v<;>try exact ay.elim
  exact⟨_,aI.int_inv,ay ρ1 H1 (some _) .refl aL rfl⟩
def i_ {α:Type}(xs:List α)(lo hi:Option Int):List α:=(xs.drop (HT.dy xs.length 0 lo)).take (HT.dy xs.length xs.length hi - HT.dy xs.length 0 lo)
theorem aJ.i_ {ρ:List Addr}{H:Hp}{l:List AV}{xs:List V}(h:aJ T ρ H l xs)(lo hi:Option Int):aJ T ρ H (i_ l lo hi) (qf xs lo hi):=by
 unfold Mm.i_ qf
 rw[h.length]
 exact(h.drop _).take _
def Aw (v:AV)(lo hi:Option Int)(s:S):R AV:=match v with
 | .tup xs=>.ok (.tup (i_ xs lo hi)) s
 | .ref i=>need (ak s i) λ xs=>.ok (.ref s.length) (s++[.lst (i_ xs lo hi)])
 | .sq xs=>.ok (.ref s.length) (s++[.lst (i_ xs lo hi)])
 | _=>.bad
def RF (T:Tx)(XE:gI):V->Option Int->Option Int->Hp->VK->Prop:=λ x lo hi H Q=>∃ ρ v s,SR T ρ s H/\VR T ρ H v x/\Out T XE (rV T) ρ H (Aw v lo hi s) Q
theorem Ft {xs:List V}{lo hi:Option Int}(h:HT.dy xs.length 0 lo=0/\HT.dy xs.length xs.length hi=xs.length):qf xs lo hi=xs:=by
 unfold qf
 rw[h.1,h.2,Nat.sub_zero,List.drop_zero,List.take_length]
theorem RP (hK:X.K=T.K):Na X (RF T XE):=by
 intro pins s σ H x v vl vu lo hi sl Q I rx hs pl pu ⟨ρ,a,st,sr,va,ho⟩
 cases a<;>try exact ho.elim
 ·obtain⟨p,vs,rfl,h1,k⟩:=va.cK
  refine Di pins s σ H _ v vl vu lo hi sl Q I rx hs pl pu ⟨p,vs,rfl,hK ▸ h1,λ hw=>?_,λ _ q hq=>ho.tup sr hq (k.i_ lo hi)⟩
  have:=k.i_ lo hi
  rw[Ft hw]at this
  exact ho.aK sr (jJ h1 this)
 ·obtain⟨xs,e0,ho⟩:=ho.ao
  obtain⟨p,vs,rfl,_,h1,k⟩:=sr.eA (aw e0) va
  exact wD pins s σ H _ v vl vu lo hi sl Q I rx hs pl pu ⟨p,vs,rfl,fh.of h1,λ q hq=>ho.alloc sr hq (OR.lst av (aJ.gr ((sr.d_ hq).add hq).toGr (k.i_ lo hi)))⟩
 ·obtain⟨p,vs,rfl,h1,k⟩:=va.fZ
  exact wD pins s σ H _ v vl vu lo hi sl Q I rx hs pl pu ⟨p,vs,rfl,hK ▸ h1.xW,λ q hq=>ho.alloc sr hq (OR.lst av (aJ.gr ((sr.d_ hq).add hq).toGr (k.i_ lo hi)))⟩
def FV (m:Ev)(lo hi:Eo):Ev:=λ env s=>(m env s).bind λ v s1=>(lo env s1).bind λ l s2=>(hi env s2).bind λ h s3=>Aw v l h s3
theorem Lj {e:Expr}{lo hi:Option Expr}{p2:Pos}{m:Ev}{ml mh:Eo}(hK:X.K=T.K)(he:PE X e (tE T XE m)) (hl:PO X lo (tO T XE ml)) (hh:PO X hi (tO T XE mh)):PE X (.Subscript e (.Slice lo hi none p2) pos) (tE T XE (FV m ml mh)):=
 PE.imp (Ag (RP (XE:=XE) hK) he hl hh) λ σ H Q ⟨ρ,env,s,hs,he,ho⟩=>
  step hs he ho λ v s1 ρ1 H1 x _ u1 aL cb aI ay=>step aL cb ay λ l s2 ρ2 H2 l' _ u2 fA lQ e2 cU=>step fA lQ cU λ h s3 ρ3 H3 h' _ u3 nQ uT e3 jH=>by
   cases (show l=l' from e2)
   cases (show h=h' from e3)
   exact⟨ρ3,v,s3,nQ,VR.up (u2.trans u3) aI,jH⟩
end
end Mm
namespace Mm
open PySem L2
abbrev Ms:=En->S->RS
def R.dI {α:Type}:R α->(α->S->RS)->RS
 | .ok a s,f=>f a s
 | .ex c s,_=>.ex c s
 | .bad,_=>.bad
@[simp] theorem ja {α:Type}(a:α) (s:S) (f:α->S->RS):(R.ok a s).dI f=f a s:=rfl
def fi (T:Tx)(XE:gI)(ρ:List Addr)(H:Hp):RS->Ends->Prop
 | .nx e s,D=>∀ ρ' H' σ',Up ρ H ρ' H'->SR T ρ' s H'->ER T ρ' H' e σ'->D.nx σ' H'
 | .rt v s,D=>∀ ρ' H' x,Up ρ H ρ' H'->SR T ρ' s H'->VR T ρ' H' v x->D.rt x H'
 | .bk e s,D=>∀ ρ' H' σ',Up ρ H ρ' H'->SR T ρ' s H'->ER T ρ' H' e σ'->D.bk σ' H'
 | .ct e s,D=>∀ ρ' H' σ',Up ρ H ρ' H'->SR T ρ' s H'->ER T ρ' H' e σ'->D.ct σ' H'
 | .ex c s,_=>∀ ρ' H',Up ρ H ρ' H'->SR T ρ' s H'->XE c ρ' s H'
 | .bad,_=>False
theorem fi.up {T:Tx}{XE:gI}{ρ ρ':List Addr}{H H':Hp}{r:RS}{D:Ends}(u:Up ρ H ρ' H')(h:fi T XE ρ H r D):fi T XE ρ' H' r D:=by
 cases r with
 | nx e s=>exact λ ρ2 H2 x u2 sr vr=>h ρ2 H2 x (u.trans u2) sr vr
 | rt e s=>exact λ ρ2 H2 x u2 sr vr=>h ρ2 H2 x (u.trans u2) sr vr
 | bk e s=>exact λ ρ2 H2 x u2 sr vr=>h ρ2 H2 x (u.trans u2) sr vr
 | ct e s=>exact λ ρ2 H2 x u2 sr vr=>h ρ2 H2 x (u.trans u2) sr vr
 | ex c s=>exact λ ρ2 H2 u2 sr=>h ρ2 H2 (u.trans u2) sr
 | bad=>exact h
def tS (T:Tx)(XE:gI)(m:Ms):TS:=λ D σ H=>∃ ρ env s,SR T ρ s H/\ER T ρ H env σ/\fi T XE ρ H (m env s) D
section
variable {T:Tx}{XE:gI}{X:Cx}{pos:Pos}
theorem fm {α β:Type}{rl:Rl α β}{ρ:List Addr}{env:En}{s:S}{σ:St}{H:Hp}{m:En->S->R α}{k:α->S->RS}{D:Ends}{F:β->Hp->Prop}
  (hs:SR T ρ s H) (he:ER T ρ H env σ) (ho:fi T XE ρ H ((m env s).dI k) D)
  (hk:∀ v s1 ρ1 H1 x,m env s=.ok v s1->Up ρ H ρ1 H1->SR T ρ1 s1 H1->ER T ρ1 H1 env σ->rl.r H ρ1 H1 v x->fi T XE ρ1 H1 (k v s1) D->F x H1):tG T XE rl m σ H F:=by
 refine⟨ρ,env,s,hs,he,?_⟩
 cases e:m env s with
 | ok v s1=>
  rw[e]at ho
  exact λ ρ1 H1 x u sr vr=>hk v s1 ρ1 H1 x e u sr (he.up u) vr (fi.up u ho)
 | ex c s1=>rw[e]at ho;exact ho
 | bad=>rw[e]at ho;exact ho
def bR:Ms:=λ env s=>.nx env s
def aC (a b:Ms):Ms:=λ env s=>match a env s with
 | .nx e s1=>b e s1
 | r=>r
theorem Ea:kA X [] (tS T XE bR):=kA.imp Dy λ D σ H ⟨ρ,env,s,hs,he,ho⟩=>ho ρ H σ .refl hs he
theorem AQ {st:Stmt}{rest:List Stmt}{a b:Ms}(h1:PS X st (tS T XE a)) (h2:kA X rest (tS T XE b)):kA X (st :: rest) (tS T XE (aC a b)):=
 kA.imp (zV h1 h2) λ D σ H ⟨ρ,env,s,hs,he,ho⟩=>by
  refine⟨ρ,env,s,hs,he,?_⟩
  unfold aC at ho
  cases e:a env s with
  | nx e1 s1=>rw[e]at ho;exact λ ρ2 H2 x u sr er=>⟨ρ2,e1,s1,sr,er,fi.up u ho⟩
  | rt v s1=>rw[e]at ho;exact ho
  | bk v s1=>rw[e]at ho;exact ho
  | ct v s1=>rw[e]at ho;exact ho
  | ex v s1=>rw[e]at ho;exact ho
  | bad=>rw[e]at ho;exact ho
theorem D_ {st:Stmt}{a:Ms}(h1:PS X st (tS T XE a)):kA X [st] (tS T XE a):=Dx h1
def bI (m:Ev):Ms:=λ env s=>(m env s).dI λ _ s1=>.nx env s1
theorem Ed {e:Expr}{m:Ev}(h:PE X e (tE T XE m)) (hs:swapsWith e none pos.line X.env=pure false:=by rfl):PS X (.Expr e pos) (tS T XE (bI m)):=
 PS.imp (Dz h hs) λ D σ H ⟨ρ,env,s,hs,he,ho⟩=>fm hs he ho λ v s1 ρ1 H1 x _ u1 aL cb aI ay=>ay ρ1 H1 σ .refl aL cb
def bh (m:Ev):Ms:=λ env s=>(m env s).dI λ v s1=>.rt v s1
theorem HQ {e:Expr}{m:Ev}(h:PE X e (tE T XE m)):PS X (.Return (some e) pos) (tS T XE (bh m)):=
 PS.imp (Hb h) λ D σ H ⟨ρ,env,s,hs,he,ho⟩=>fm hs he ho λ v s1 ρ1 H1 x _ u1 aL cb aI ay=>ay ρ1 H1 x .refl aL aI
def fS (c:Eb)(a b:Ms):Ms:=λ env s=>(c env s).dI λ k s1=>if k=true then a env s1 else b env s1
theorem Lb {c:Expr}{a b:List Stmt}{sR:Eb}{ma mb:Ms}(hc:PT X c (iR T XE sR)) (ha:kA X a (tS T XE ma)) (hb:kA X b (tS T XE mb)):PS X (.If c a b pos) (tS T XE (fS sR ma mb)):=
 PS.imp (Kx hc ha hb) λ D σ H ⟨ρ,env,s,hs,he,ho⟩=>fm hs he ho λ v s1 ρ1 H1 x _ u1 aL cb aI ay=>by
  cases (show v=x from aI)
  cases v with
  | true=>exact⟨ρ1,env,s1,aL,cb,ay⟩
  | false=>exact⟨ρ1,env,s1,aL,cb,ay⟩
def cw (i:Nat)(m:Ev):Ms:=λ env s=>(m env s).dI λ v s1=>.nx (env.set i (some v)) s1
theorem Cp {i:Nat}{m:Ev}{D:Ends}{σ:St}{H:Hp}(h:tS T XE (cw i m) D σ H):C4 (tE T XE m) (xm i) D σ H:=by
 obtain⟨ρ,env,s,hs,he,ho⟩:=h
 exact fm hs he ho λ v s1 ρ1 H1 x _ u1 aL cb aI ay=>ay ρ1 H1 _ .refl aL (cb.set aI)
theorem AR {i:Nat}{x:Str}{e:Expr}{m:Ev}{pos':Pos}(hN:X.N.Nodup)(he:PE X e (tE T XE m)) (hi:X.N[i]? = some x:=by rfl)(hx:Loc X.env.scope x:=by first|exact Or.inl rfl|exact Or.inr rfl)(hs:swapsWith e (some (.Name x pos')) pos.line X.env=pure false:=by rfl) (hf:X.fn x=true∨X.env.scope.names.lookup x=some .local:=by first|exact .inl rfl|exact .inr rfl|assumption) :
  PS X (.Assign [.Name x pos'] e pos) (tS T XE (cw i m)):=PS.imp (Ha hN hi hx he hs hf) λ D σ H h=>Cp h
abbrev Mt:=AV->En->S->RS
abbrev xJ:=List AV->En->S->RS
def Fg (Q:St->Hp->Prop):Ends:={ nx:=Q,rt:=λ _ _=>False }
def tT (T:Tx)(XE:gI)(m:Mt):TG:=λ x σ H Q=>∃ ρ env s v,SR T ρ s H/\ER T ρ H env σ/\VR T ρ H v x/\fi T XE ρ H (m v env s) (Fg Q)
def Nl (T:Tx)(XE:gI)(m:xJ):FF:=λ xs σ H Q=>∃ ρ env s vs,SR T ρ s H/\ER T ρ H env σ/\aJ T ρ H vs xs/\fi T XE ρ H (m vs env s) (Fg Q)
def gN (i:Nat):Mt:=λ v env s=>.nx (env.set i (some v)) s
def ie:xJ:=λ vs env s=>match vs with
 | []=>.nx env s
 | _=>.bad
def aT (a:Mt)(r:xJ):xJ:=λ vs env s=>match vs with
 | v :: w=>match a v env s with
  | .nx e s1=>r w e s1
  | q=>q
 | _=>.bad
def gT (n:Nat)(r:xJ):Mt:=λ v env s=>match v with
 | .tup vs=>if vs.length=n then r vs env s else .bad
 | _=>.bad
theorem Er {i:Nat}{x:Str}(hN:X.N.Nodup)(hi:X.N[i]? = some x:=by rfl)(hx:Loc X.env.scope x:=by first|exact Or.inl rfl|exact Or.inr rfl)(hf:X.fn x=true∨X.env.scope.names.lookup x=some .local:=by first|exact .inl rfl|exact .inr rfl|assumption):PG X (.Name x pos) (tT T XE (gN i)):=
 PG.imp (DL hN hi hx hf) λ x σ H Q ⟨ρ,env,s,v,hs,he,vr,ho⟩=>ho ρ H _ .refl hs (he.set vr)
theorem El:xH X [] (Nl T XE ie):=xH.imp DK λ xs σ H Q ⟨ρ,env,s,vs,hs,he,vr,ho⟩=>by
 cases vs with
 | nil=>exact⟨vr.nil_inv,ho ρ H _ .refl hs he⟩
 | cons a r=>exact ho.elim
theorem A3 {e:Expr}{es:List Expr}{a:Mt}{r:xJ}(h1:PG X e (tT T XE a)) (h2:xH X es (Nl T XE r)) (hs:(assignEach (e :: es) X.env).map (·.2)=assign e X.env :: (assignEach es X.env).map (·.2):=by rfl):xH X (e :: es) (Nl T XE (aT a r)):=
 xH.imp (Ac h1 h2 hs) λ xs σ H Q ⟨ρ,env,s,vs,hs,he,vr,ho⟩=>by
  cases vs with
  | nil=>exact ho.elim
  | cons v w=>
   obtain⟨x,ys,rfl,k1,k2⟩:=vr.cons_inv
   refine⟨x,ys,rfl,ρ,env,s,v,hs,he,k1,?_⟩
   unfold aT at ho
   cases e:a v env s with
   | nx e1 s1=>simp only[e]at ho;exact λ ρ2 H2 x u sr er=>⟨ρ2,e1,s1,w,sr,er,k2.up u,fi.up u ho⟩
   | rt v s1=>simp only[e]at ho;exact ho
   | bk v s1=>simp only[e]at ho;exact λ ρ2 H2 x u sr er=>ho ρ2 H2 x u sr er
   | ct v s1=>simp only[e]at ho;exact λ ρ2 H2 x u sr er=>ho ρ2 H2 x u sr er
   | ex v s1=>simp only[e]at ho;exact ho
   | bad=>simp only[e]at ho;exact ho
theorem H_ {es:List Expr}{k:Nat}{r:xJ}{n:Nat}(hK:X.K=T.K)(hc:X.calm=true)(h:xH X es (Nl T XE r)) (hn:(assignEach es X.env).length=n:=by rfl) (vX:(assignEach es X.env).findIdx? (·.1)=none:=by rfl):PG X (.Tuple es k pos) (tT T XE (gT n r)):=
 PG.imp (Hk hc h hn vX) λ x σ H Q ⟨ρ,env,s,v,hs,he,vr,ho⟩=>by
  obtain⟨vs,rfl⟩:∃ vs,v=.tup vs:=by
   cases v with
   | tup vs=>exact⟨vs,rfl⟩
   | _=>exact ho.elim
  obtain⟨a,ws,rfl,h1,k1⟩:=vr.cK
  have ho:fi T XE ρ H (if vs.length=n then r vs env s else .bad) (Fg Q):=ho
  by_cases hl:vs.length=n
  ·rw[if_pos hl]at ho
   exact⟨a,ws,rfl,hK ▸ h1,by rw[<-k1.length];exact hl,ρ,env,s,vs,hs,he,k1,ho⟩
  ·rw[if_neg hl]at ho;exact ho.elim
def yb (m:Ev)(g:Mt):Ms:=λ env s=>(m env s).dI λ v s1=>g v env s1
def kB (g:Mt):Prop:=∀ v env s,(∃ e s1,g v env s=.nx e s1)∨(∃ c s1,g v env s=.ex c s1)∨g v env s=.bad
def oZ (g:xJ):Prop:=∀ v env s,(∃ e s1,g v env s=.nx e s1)∨(∃ c s1,g v env s=.ex c s1)∨g v env s=.bad
theorem DZ {i:Nat}:kB (gN i):=λ v env s=>.inl ⟨_,_,rfl⟩
theorem HH:oZ ie:=λ v env s=>by
 cases v with
 | nil=>exact .inl ⟨_,_,rfl⟩
 | cons a r=>exact .inr (.inr rfl)
theorem D6 {a:Mt}{r:xJ}(h:kB a)(k:oZ r):oZ (aT a r):=λ v env s=>by
 cases v with
 | nil=>exact .inr (.inr rfl)
 | cons x w=>
  rcases h x env s with⟨e,s1,q⟩|⟨e,s1,q⟩|q
  ·have:aT a r (x :: w) env s=r w e s1:=by unfold aT;simp only[q]
   rw[this];exact k w e s1
  ·have:aT a r (x :: w) env s=.ex e s1:=by unfold aT;simp only[q]
   exact .inr (.inl ⟨_,_,this⟩)
  ·have:aT a r (x :: w) env s=.bad:=by unfold aT;simp only[q]
   exact .inr (.inr this)
theorem HG {n:Nat}{r:xJ}(k:oZ r):kB (gT n r):=λ v env s=>by
 cases v<;>try exact .inr (.inr rfl)
 rename_i vs
 by_cases hl:vs.length=n
 ·have:gT n r (.tup vs) env s=r vs env s:=if_pos hl
  rw[this];exact k vs env s
 ·have:gT n r (.tup vs) env s=.bad:=if_neg hl
  exact .inr (.inr this)
theorem kB.out {g:Mt}(k:kB g){ρ:List Addr}{H:Hp}{v:AV}{env:En}{s:S}{D:Ends}(h:fi T XE ρ H (g v env s) D):fi T XE ρ H (g v env s) (Fg D.nx):=by
 rcases k v env s with⟨e,s1,q⟩|⟨e,s1,q⟩|q<;>rw[q]at h ⊢<;>exact h
theorem HV {tg e:Expr}{m:Ev}{g:Mt}(he:PE X e (tE T XE m)) (hg:PG X tg (tT T XE g)) (Si:kB g)(hs:swapsWithSole [tg] e pos.line X.env=pure false:=by rfl)(hw:swappedStores [tg] e X.env=pure none:=by rfl)
  (h1:(assignEach [tg] X.env).map (·.2)=[assign tg X.env]:=by rfl):PS X (.Assign [tg] e pos) (tS T XE (yb m g)):=
 PS.imp (Hg he hg hs hw h1) λ D σ H ⟨ρ,env,s,hs,he,ho⟩=>fm hs he ho λ v s1 ρ1 H1 x _ u1 aL cb aI ay=>⟨ρ1,env,s1,v,aL,cb,aI,Si.out ay⟩
def oo (i j:Nat)(r:dY):Ms:=λ env s=>(r env s).dI λ vs s1=>match vs with
 | [v,w]=>.nx ((env.set i (some v)).set j (some w)) s1
 | _=>.bad
theorem HR {i j:Nat}{x y:Str}{a b:Expr}{r:dY}{px py pt:Pos}{kt k2:Nat}{G':Pos}(hc:X.calm=true)(hN:X.N.Nodup)(ha:PA X [a,b] (tP T XE r)) (hi:X.N[i]? = some x:=by rfl)(hj:X.N[j]? = some y:=by rfl)(qk:i≠j:=by decide)
  (hx:X.env.scope.names.lookup x=some .local:=by rfl) (hy:X.env.scope.names.lookup y=some .local:=by rfl)
  (hw:swappedStores [.Tuple [.Name x px,.Name y py] kt pt] (.Tuple [a,b] k2 G') X.env=pure (some [x,y]):=by rfl)
  (hs:swapsWithSole [.Tuple [.Name x px,.Name y py] kt pt] (.Tuple [a,b] k2 G') pos.line X.env=pure false:=by rfl) :
  PS X (.Assign [.Tuple [.Name x px,.Name y py] kt pt] (.Tuple [a,b] k2 G') pos) (tS T XE (oo i j r)):=
 PS.imp (Hc hc hN hi hj qk hx hy ha hw hs) λ D σ H ⟨ρ,env,s,hs,he,ho⟩=>fm hs he ho λ v s1 ρ1 H1 x _ u1 aL cb aI ay=>by
  have aI:aJ T ρ1 H1 v x:=aI
  match v,aI,ay with
  | [v,w],aI,ay=>
   obtain⟨x1,ys,rfl,k1,k2⟩:=aI.cons_inv
   obtain⟨x2,ys,rfl,k4,k3⟩:=k2.cons_inv
   cases k3.nil_inv
   exact⟨x1,x2,rfl,ay ρ1 H1 _ .refl aL ((cb.set k1).set k4)⟩
  | [],_,ay=>exact ay.elim
  | [_],_,ay=>exact ay.elim
  | _ :: _ :: _ :: _,_,ay=>exact ay.elim
def Cy (c:Eb)(b:Ms):Nat->En->S->RS
 | 0,_,_=>.bad
 | n+1,env,s=>(c env s).dI λ k s1=>if k=true then (match b env s1 with
   | .nx e s2=>Cy c b n e s2
   | .ct e s2=>Cy c b n e s2
   | .bk e s2=>.nx e s2
   | r=>r) else .nx env s1
def Dk (f:En->S->Nat)(c:Eb)(b:Ms):Ms:=λ env s=>Cy c b (f env s) env s
theorem HN {c:Expr}{body:List Stmt}{sR:Eb}{mb:Ms}(f:En->S->Nat)(hp:PassesOwn (model X.prog X.w) X.A X.env X.xe) (hc:PT X c (iR T XE sR)) (hb:kA X body (tS T XE mb)):PS X (.While c body [] pos) (tS T XE (Dk f sR mb)):=
 PS.imp (zW hp hc hb) λ D σ H ⟨ρ,env,s,hs,he,ho⟩=>by
  refine⟨λ n σ H=>∃ ρ env s,SR T ρ s H/\ER T ρ H env σ/\fi T XE ρ H (Cy sR mb n env s) D,⟨f env s,ρ,env,s,hs,he,ho⟩,?_⟩
  rintro n σ H ⟨ρ,env,s,hs,he,ho⟩
  cases n with
  | zero=>exact ho.elim
  | succ n=>
   unfold Cy at ho
   refine fm hs he ho λ v s1 ρ1 H1 x _ u1 aL cb aI ay=>?_
   cases (show v=x from aI)
   cases v with
   | false=>exact ay ρ1 H1 σ .refl aL cb
   | true=>
    refine⟨λ σ' H'=>∃ ρ env s,SR T ρ s H'/\ER T ρ H' env σ'/\fi T XE ρ H' (Cy sR mb n env s) D,λ σ' H' h=>⟨n,Nat.lt_succ_self n,h⟩,ρ1,env,s1,aL,cb,?_⟩
    simp only[if_pos]at ay
    cases e:mb env s1 with
    | nx e2 s2=>simp only[e]at ay;exact λ ρ2 H2 x u sr er=>⟨ρ2,e2,s2,sr,er,fi.up u ay⟩
    | ct e2 s2=>simp only[e]at ay;exact λ ρ2 H2 x u sr er=>⟨ρ2,e2,s2,sr,er,fi.up u ay⟩
    | bk e2 s2=>simp only[e]at ay;exact λ ρ2 H2 x u sr er=>ay ρ2 H2 x u sr er
    | rt v s2=>simp only[e]at ay;exact ay
    | ex v s2=>simp only[e]at ay;exact ay
    | bad=>simp only[e]at ay;exact ay
end
end Mm
namespace L2
open PySem PySem.Spec PyProof.Rows
theorem Hj {X:Cx}{tg l:Expr}{tl:TE}(hl:PE X l tl):PI X tg l (λ σ H R=>tl σ H λ x H1=>∃ a,x=.ref a/\(((∃ xs,fh X.K H1 a xs)/\R (JV X.K a) H1)∨((∃ xs,hR X.K H1 a xs)/\R (Nc X.K a) H1))):=by
 intro pins s σ H R I h
 refine bG (hl pins s σ H _ I h) λ v s1 ⟨x,H1,I1,r1,q1⟩=>?_
 obtain⟨a,e,q⟩:=q1
 subst e
 cases r1
 rcases q with⟨⟨xs,hq⟩,q⟩|⟨⟨xs,hq⟩,q⟩
 ·obtain⟨its,rv,p,hz⟩:=I1.list hq
  refine wpAny_pyIter_list p.isList ?_
  refine⟨s1.heap.objs.size,[s1.heap.objs.size],_,_,H1,rfl,I1.kept (t':=s1.toks) λ b o e=>Heap.get?_push_of_some _ e,qP a _,⟨_,Heap.get?_push_size _ rfl,rfl,rfl⟩,λ b hb=>?_,q⟩
  have e:b=s1.heap.objs.size:=by simpa using hb
  subst e
  exact I1.v8 (Nat.le_refl _) (I1.aQ.fresh (Nat.le_refl _))
 ·obtain⟨its,rv,p,hz⟩:=I1.tuple hq
  refine wpAny_pyIter_tuple (show s1.heap.IsTuple a its.toArray from p) ?_
  refine⟨s1.heap.objs.size,[s1.heap.objs.size],_,_,H1,rfl,I1.kept (t':=s1.toks) λ b o e=>Heap.get?_push_of_some _ e,vt a _,⟨_,Heap.get?_push_size _ rfl,rfl,rfl⟩,λ b hb=>?_,q⟩
  have e:b=s1.heap.objs.size:=by simpa using hb
  subst e
  exact I1.v8 (Nat.le_refl _) (I1.aQ.fresh (Nat.le_refl _))
end L2
namespace Mm
open PySem L2
theorem Up.mod {ρ ρ':List Addr}{H H':Hp}{D:Addr}{o:HO}(u:Up ρ H ρ' H')(h:H D=none)(n:D∉ρ'):Up ρ H ρ' (upd H' D o):=
 ⟨⟨u.pre,λ b xs e=>by rw[ah (aF e h)];exact u.jC b xs e,λ b p v e=>by rw[ah (aF e h)];exact u.iF b p v e⟩,λ b p e k=>⟨by rw[ah (aF e h)];exact(u.fr b p e k).1,(u.fr b p e k).2⟩,λ b e=>by
  by_cases hb:b=D
  ·rw[hb];exact h
  ·rw[ah hb]at e;exact u.live b e⟩
theorem P5 {ρ:List Addr}{H:Hp}{D:Addr}{xs:List V}{o:HO}(h:H D=some (.lst xs)):Gr ρ H ρ (upd H D o):=
 ⟨List.prefix_rfl,λ b ys e=>by rw[ah (pQ e h (by intro z;cases z))];exact e,λ b p v e=>by rw[ah (pQ e h (by intro z;cases z))];exact e⟩
theorem ER.gr {T:Tx}{ρ ρ':List Addr}{H H':Hp}{env:En}{σ:St}(h:ER T ρ H env σ)(u:Gr ρ H ρ' H'):ER T ρ' H' env σ:=
 ⟨h.len,λ i v e=>let ⟨x,e1,q⟩:=h.get i v e;⟨x,e1,q.gr u⟩⟩
abbrev Gd:=List (Nat × List AV)
def tm (gs:Gd)(s:S):Prop:=∀ p∈gs,ak s p.1=some p.2
theorem xl (i:Nat)(xs:List AV)(s:S):tm [(i,xs)] s ↔ ak s i=some xs:=by simp[tm]
structure Walks (T:Tx)(ρ:List Addr)(H:Hp)(xs:List AV)(gs:Gd)(J:It):Prop where
 turn:∀ ρ' s' H',Up ρ H ρ' H'->SR T ρ' s' H'->tm gs s'->(∀ (j:Nat) (v:AV),xs[j]? = some v->J.go j H'/\∀ x H'',J.CQ j H' x H''->Up ρ' H' ρ' H''/\SR T ρ' s' H''/\VR T ρ' H'' v x)/\J.stop xs.length H'
abbrev Src:=En->S->R (List AV × Gd)
def rW (T:Tx):Rl (List AV × Gd) It:=⟨λ _ ρ H p J=>Walks T ρ H p.1 p.2 J,λ _ h=>h⟩
abbrev tW (T:Tx)(XE:gI)(m:Src):TI:=tG T XE (rW T) m
section
variable {T:Tx}{XE:gI}{X:Cx}{pos:Pos}
theorem mS {K:PySem.W.Frag}{a:Addr}{H':Hp}{vs:List V}(h:H' a=some (.lst vs)∨Gs K H' a vs) {ρ':List Addr}{s':S}{xs:List AV}(sr:SR T ρ' s' H')(k:aJ T ρ' H' xs vs) :
  (∀ (j:Nat) (v:AV),xs[j]? = some v->(JV K a).go j H'/\∀ x H'',(JV K a).CQ j H' x H''->Up ρ' H' ρ' H''/\SR T ρ' s' H''/\VR T ρ' H'' v x)/\(JV K a).stop xs.length H':=by
 have hq:fh K H' a vs:=by rcases h with h|h;exact fh.of h;exact h.xW
 refine⟨λ j v e=>?_,⟨vs,hq,by rw[k.length];exact Nat.le_refl _⟩⟩
 obtain⟨x,ex,kx⟩:=k.get e
 refine⟨⟨vs,x,hq,ex⟩,λ y H'' ⟨e1,e2⟩=>?_⟩
 subst e1
 have:=e2 vs hq
 rw[ex]at this
 cases this
 exact⟨.refl,sr,kx⟩
theorem zk {K:PySem.W.Frag}{a:Addr}{H':Hp}{vs:List V}(hq:hR K H' a vs){ρ':List Addr}{s':S}{xs:List AV}(sr:SR T ρ' s' H')(k:aJ T ρ' H' xs vs) :
  (∀ (j:Nat) (v:AV),xs[j]? = some v->(Nc K a).go j H'/\∀ x H'',(Nc K a).CQ j H' x H''->Up ρ' H' ρ' H''/\SR T ρ' s' H''/\VR T ρ' H'' v x)/\(Nc K a).stop xs.length H':=by
 refine⟨λ j v e=>?_,⟨vs,hq,by rw[k.length];exact Nat.le_refl _⟩⟩
 obtain⟨x,ex,kx⟩:=k.get e
 refine⟨⟨vs,x,hq,ex⟩,λ y H'' ⟨e1,e2⟩=>?_⟩
 subst e1
 have:=e2 vs hq
 rw[ex]at this
 cases this
 exact⟨.refl,sr,kx⟩
def uo (r:dY):Src:=λ env s=>(r env s).bind λ xs s1=>.ok (xs,[]) s1
theorem O2 {tg e:Expr}{r:dY}(hK:X.K=T.K)(h:PE X e (tL T XE r)):PI X tg e (tW T XE (uo r)):=
 PI.imp (DI h) λ σ H R ⟨ρ,env,s,hs,he,ho⟩=>by
  refine⟨ρ,env,s,hs,he,?_⟩
  unfold uo at ho
  cases e:r env s with
  | bad=>rw[e]at ho;exact ho
  | ex c s1=>rw[e]at ho;exact ho
  | ok xs s1=>
   rw[e]at ho
   intro ρ1 H1 x u sr ⟨a,vs,e1,h0,h1,h2,k⟩
   subst e1
   refine⟨a,rfl,⟨vs,fh.of h2⟩,ho ρ1 H1 _ u sr ⟨λ ρ' s' H' u' je _=>?_⟩⟩
   rw[hK]
   exact mS (.inl (u'.fr a _ h2 h1).1) je (k.up u')
def fR (m:Ev):Src:=λ env s=>(m env s).bind λ v s1=>match v with
 | .tup xs=>.ok (xs,[]) s1
 | .sq xs=>.ok (xs,[]) s1
 | .ref i=>need (ak s1 i) λ xs=>.ok (xs,[(i,xs)]) s1
 | _=>.bad
theorem O1 {tg e:Expr}{m:Ev}(hK:X.K=T.K)(h:PE X e (tE T XE m)):PI X tg e (tW T XE (fR m)):=
 PI.imp (Hj h) λ σ H R ⟨ρ,env,s,hs,he,ho⟩=>step hs he ho λ v s1 ρ1 H1 x _ u1 aL cb aI ay=>by
  have aI:VR T ρ1 H1 v x:=aI
  cases v with
  | tup xs=>
   obtain⟨a,vs,rfl,h1,k⟩:=aI.cK
   refine⟨a,rfl,.inr ⟨⟨vs,hK ▸ h1⟩,ay ρ1 H1 _ .refl aL ⟨λ ρ' s' H' u' je _=>?_⟩⟩⟩
   rw[hK]
   exact zk (u'.Kk h1) je (k.up u')
  | sq xs=>
   obtain⟨a,vs,rfl,h1,k⟩:=aI.fZ
   refine⟨a,rfl,.inl ⟨⟨vs,hK ▸ h1.xW⟩,ay ρ1 H1 _ .refl aL ⟨λ ρ' s' H' u' je _=>?_⟩⟩⟩
   rw[hK]
   exact mS (.inr (u'.Oq h1)) je (k.up u')
  | ref i=>
   obtain⟨xs,e0,ay⟩:=ay.ao
   obtain⟨a,vs,rfl,ea,h1,k⟩:=aL.eA (aw e0) aI
   refine⟨a,rfl,.inl ⟨⟨vs,fh.of h1⟩,ay ρ1 H1 _ .refl aL ⟨λ ρ' s' H' u' je g=>?_⟩⟩⟩
   have e2:=(xl i xs s').mp g
   obtain⟨b,ws,eb,_,h2,k2⟩:=je.eA (aw e2) (VR.up u' aI)
   cases eb
   exact mS (.inl h2) je k2
  | az=>exact ay.elim
  | bl b=>exact ay.elim
  | int b=>exact ay.elim
  | str b=>exact ay.elim
def kM (lo:Int)(n:Nat):List AV:=(List.range n).map λ(i:Nat)=>AV.int (lo+i)
theorem zl {lo:Int}{n:Nat}{H':Hp}{ρ':List Addr}{s':S}(sr:SR T ρ' s' H') :
  (∀ (j:Nat) (v:AV),(kM lo n)[j]? = some v->(JU lo n).go j H'/\∀ x H'',(JU lo n).CQ j H' x H''->Up ρ' H' ρ' H''/\SR T ρ' s' H''/\VR T ρ' H'' v x)/\(JU lo n).stop (kM lo n).length H':=by
 have hl:(kM lo n).length=n:=by simp[kM]
 refine⟨λ j v e=>?_,by rw[hl];exact Nat.le_refl _⟩
 have hj:j < n:=by have:=(List.getElem?_eq_some_iff.mp e).1;rw[hl]at this;exact this
 refine⟨hj,λ y H'' ⟨e1,e2⟩=>?_⟩
 subst e1 e2
 have:(kM lo n)[j]? = some (.int (lo+j)):=by simp[kM,hj]
 rw[this]at e
 cases e
 exact⟨.refl,sr,dZ⟩
def qr (r:dY):Src:=λ env s=>(r env s).bind λ vs s1=>match vs with
 | [.int j]=>if -(2 ^ 62)<=j/\j < 2 ^ 62 then .ok (kM 0 j.toNat,[]) s1 else .bad
 | [.int i,.int j]=>if -(2 ^ 62)<=i/\i < 2 ^ 62/\-(2 ^ 62)<=j/\j < 2 ^ 62 then .ok (kM i (j - i).toNat,[]) s1 else .bad
 | _=>.bad
theorem Le {tg a:Expr}{p:Pos}{m:Ev}(hm:X.mg "range"=none)(ha:PE X a (tE T XE m)) (hg:Gl X "range":=by rfl)(hs:starEach [a] X.env=[(false,eval a X.env)]:=by rfl):PI X tg (.Call (.Name "range" p) [a] [] pos) (tW T XE (qr (aa m ag))):=
 PI.imp (yd hg hm (ux ha wM hs) hs) λ σ H R ⟨ρ,env,s,hs,he,ho⟩=>step hs he ho λ v s1 ρ1 H1 x e u1 aL cb aI ay=>by
  have aI:aJ T ρ1 H1 v x:=aI
  obtain⟨w,rfl⟩:∃ w,v=[w]:=by
   unfold aa ag at e
   cases e1:m env s with
   | ok w s2=>rw[e1]at e;cases e;exact⟨w,rfl⟩
   | ex c s2=>rw[e1]at e;cases e
   | bad=>rw[e1]at e;cases e
  obtain⟨y,ys,rfl,k1,k2⟩:=aI.cons_inv
  cases k2.nil_inv
  cases w with
  | int j=>
   obtain⟨⟨h1,h2⟩,ay⟩:=ay.a7
   cases k1.int_inv
   exact⟨j,rfl,h1,h2,ay ρ1 H1 _ .refl aL ⟨λ ρ' s' H' u' je _=>zl je⟩⟩
  | _=>exact ay.elim
noncomputable def forL (eL:Mt)(body:Ms)(gs:Gd):List AV->En->S->RS
 | [],env,s=>open Classical in if tm gs s then .nx env s else .bad
 | v :: r,env,s=>open Classical in if tm gs s then (match eL v env s with
   | .nx e1 s1=>(match body e1 s1 with
    | .nx e2 s2=>forL eL body gs r e2 s2
    | .ct e2 s2=>forL eL body gs r e2 s2
    | .bk e2 s2=>.nx e2 s2
    | q=>q)
   | .ex c s1=>.ex c s1
   | _=>.bad) else .bad
noncomputable def sy (src:Src)(eL:Mt)(body:Ms):Ms:=λ env s=>(src env s).dI λ p s1=>forL eL body p.2 p.1 env s1
theorem fi.a7 {ρ:List Addr}{H:Hp}{c:Prop}{_:Decidable c}{r:RS}{D:Ends}(h:fi T XE ρ H (if c then r else .bad) D):c/\fi T XE ρ H r D:=by
 by_cases hc:c
 ·rw[if_pos hc]at h;exact⟨hc,h⟩
 ·rw[if_neg hc]at h;exact h.elim
theorem HS {tg iter:Expr}{body:List Stmt}{src:Src}{eL:Mt}{mb:Ms}(hp:PassesOwn (model X.prog X.w) X.A X.env X.xe) (hc:X.calm=true)(hi:PI X tg iter (tW T XE src)) (hg:PG X tg (tT T XE eL)) (hb:kA X body (tS T XE mb))
  (hs:∀ x,foldedSetIterable iter X.env x=pure x:=by intro _;rfl):PS X (.For tg iter body [] pos) (tS T XE (sy src eL mb)):=
 PS.imp (He hp hc hi hg hb hs) λ D σ H ⟨ρ,env,s,hs,he,ho⟩=>fm hs he ho λ p s1 ρ1 H1 J _ u1 aL cb wk ay=>by
  obtain⟨xs,gs⟩:=p
  have wk:Walks T ρ1 H1 xs gs J:=wk
  refine⟨λ i m σ' H'=>m=xs.length - i/\i<=xs.length/\∃ ρ' mL s',Up ρ1 H1 ρ' H'/\SR T ρ' s' H'/\ER T ρ' H' mL σ'/\fi T XE ρ' H' (forL eL mb gs (xs.drop i) mL s') D,⟨_,rfl,Nat.zero_le _,ρ1,env,s1,.refl,aL,cb,ay⟩,?_⟩
  rintro i m σ' H' ⟨rfl,hi,ρ',mL,s',u',je,NM,cL⟩
  by_cases xh:i < xs.length
  ·rw[List.drop_eq_getElem_cons xh]at cL
   unfold forL at cL
   obtain⟨I0,cL⟩:=cL.a7
   obtain⟨w1,w2⟩:=(wk.turn ρ' s' H' u' je I0).1 i xs[i] (List.getElem?_eq_getElem xh)
   refine .inr ⟨w1,λ σ2 H2=>∃ ρ2 Mo s2,Up ρ1 H1 ρ2 H2/\SR T ρ2 s2 H2/\ER T ρ2 H2 Mo σ2/\fi T XE ρ2 H2 (forL eL mb gs (xs.drop (i+1)) Mo s2) D,λ σ2 H2 h2=>⟨xs.length - (i+1),by omega,rfl,xh,h2⟩,λ x H'' hy=>?_⟩
   obtain⟨y1,y2,y3⟩:=w2 x H'' hy
   refine⟨ρ',mL,s',xs[i],y2,NM.up y1,y3,?_⟩
   have cL:=fi.up y1 cL
   cases et:eL xs[i] mL s' with
   | nx e1 s1=>
    simp only[et]at cL
    refine λ ρ2 H2 σ2 u2 fA lQ=>⟨ρ2,e1,s1,fA,lQ,?_⟩
    have cL:=fi.up u2 cL
    have Qu:Up ρ1 H1 ρ2 H2:=(u'.trans y1).trans u2
    cases eb:mb e1 s1 with
    | nx e2 s2=>simp only[eb]at cL;exact λ ρ3 H3 σ3 u3 nQ uT=>⟨ρ3,e2,s2,Qu.trans u3,nQ,uT,fi.up u3 cL⟩
    | ct e2 s2=>simp only[eb]at cL;exact λ ρ3 H3 σ3 u3 nQ uT=>⟨ρ3,e2,s2,Qu.trans u3,nQ,uT,fi.up u3 cL⟩
    | bk e2 s2=>simp only[eb]at cL;exact λ ρ3 H3 σ3 u3 nQ uT=>cL ρ3 H3 σ3 u3 nQ uT
    | rt v s2=>simp only[eb]at cL;exact cL
    | ex v s2=>simp only[eb]at cL;exact cL
    | bad=>simp only[eb]at cL;exact cL
   | ex c s1=>simp only[et]at cL;exact cL
   | rt v s2=>simp only[et]at cL;exact cL.elim
   | bk v s2=>simp only[et]at cL;exact cL.elim
   | ct v s2=>simp only[et]at cL;exact cL.elim
   | bad=>simp only[et]at cL;exact cL.elim
  ·have e:i=xs.length:=by omega
   subst e
   rw[List.drop_length]at cL
   unfold forL at cL
   obtain⟨I0,cL⟩:=cL.a7
   exact .inl ⟨(wk.turn ρ' s' H' u' je I0).2,cL ρ' H' σ' .refl je NM⟩
abbrev Lc:=List (Str × Option Nat)
def vz (l:Lc)(env:En):En:=l.map λ p=>p.2.bind λ j=>(env[j]?).join
theorem ER.src {ρ:List Addr}{H:Hp}{env:En}{σ:St}(h:ER T ρ H env σ)(l:Lc):ER T ρ H (vz l env) (xU l σ):=by
 refine⟨by simp[vz,xU],λ i v e=>?_⟩
 unfold vz at e
 unfold xU
 rw[List.getElem?_map]at e ⊢
 cases el:l[i]? with
 | none=>rw[el]at e;cases e
 | some p=>
  rw[el]at e
  obtain⟨n,o⟩:=p
  cases o with
  | none=>cases e
  | some j=>
   have e:some ((env[j]?).join)=some (some v):=e
   have e':env[j]? = some (some v):=by
    cases ej:env[j]? with
    | none=>rw[ej]at e;cases e
    | some q=>rw[ej]at e;cases e;rfl
   obtain⟨x,ex,k⟩:=h.get j v e'
   exact⟨x,by show some ((σ[j]?).join)=_;rw[ex];rfl,k⟩
def yS:gI:=λ _ _ _ _=>False
def R.calm {α:Type}:R α->R α
 | .ex _ _=>.bad
 | r=>r
@[simp] theorem xy {α:Type}(a:α) (s:S):(R.ok a s).calm=.ok a s:=rfl
@[simp] theorem u9 {α:Type}:(R.bad:R α).calm=.bad:=rfl
def js:Eb:=λ _ s=>.ok true s
noncomputable def bY (eL:Mt)(test:Eb)(elt:Ev)(gs:Gd):List AV->En->S->List AV->R (List AV)
 | [],env,s,acc=>open Classical in if tm gs s then .ok acc s else .bad
 | v :: r,env,s,acc=>open Classical in if tm gs s then (match eL v env s with
   | .nx e1 s1=>(test e1 s1).calm.bind λ b s2=>if b=true then (elt e1 s2).calm.bind λ x s3=>bY eL test elt gs r e1 s3 (acc++[x]) else bY eL test elt gs r e1 s2 acc
   | _=>.bad) else .bad
noncomputable def cj (l:Lc)(src:Src)(eL:Mt)(test:Eb)(elt:Ev):dY:=λ env s=>(src env s).bind λ p s1=>if p.1.length<=sizeLine then bY eL test elt p.2 p.1 (vz l env) s1 [] else .bad
theorem Aa:FG X [] (iR T XE js):=λ pins s σ H Q I ⟨ρ,env,st,hs,he,ho⟩=>DH pins s σ H Q I (rJ ho hs)
theorem z_ {c:Expr}{m:Eb}(h:PT X c (iR T XE m)):FG X [c] (iR T XE m):=DG h
theorem xu {l:Lc}{src:Src}{eL:Mt}{test:Eb}{elt:Ev}{σ:St}{H:Hp}{Q:VK}(h:tL T XE (cj l src eL test elt) σ H Q):zw l (tW T XE src) (tT T yS eL) (iR T yS test) (tE T yS elt) σ H Q:=by
 obtain⟨ρ,env,s,hs,he,ho⟩:=h
 refine⟨ρ,env,s,hs,he,?_⟩
 unfold cj at ho
 cases e:src env s with
 | bad=>rw[e]at ho;exact ho
 | ex c s1=>rw[e]at ho;exact ho
 | ok p s1=>
  rw[e]at ho
  obtain⟨xs,gs⟩:=p
  obtain⟨hlen,ho⟩:=ho.a7
  have hlen:xs.length<=sizeLine:=hlen
  intro ρ1 H1 J u1 aL wk D hD
  have wk:Walks T ρ1 H1 xs gs J:=wk
  have nD:D∉ρ1:=aL.out hD
  refine⟨λ i m ys σ' H'=>m=xs.length - i/\i<=xs.length/\ys.length<=i/\∃ ρ' mL s' acc,Up ρ1 H1 ρ' H'/\SR T ρ' s' H'/\ER T ρ' H' mL σ'/\H' D=some (.lst ys)/\D∉ρ'/\aJ T ρ' H' acc ys/\Out T XE (rL T) ρ H (bY eL test elt gs (xs.drop i) mL s' acc) Q,
   ⟨_,rfl,Nat.zero_le _,Nat.le_refl _,ρ1,vz l env,s1,[],aL.d_ hD,aL.new hD,((he.up u1).up (aL.d_ hD)).src l,av,nD,.nil,ho⟩,?_⟩
  rintro i m ys σ' H' ⟨rfl,hi,hy,ρ',mL,s',acc,u',je,NM,hd,QN,ka,cL⟩
  by_cases xh:i < xs.length
  ·rw[List.drop_eq_getElem_cons xh]at cL
   unfold bY at cL
   obtain⟨I0,cL⟩:=cL.a7
   obtain⟨w1,w2⟩:=(wk.turn ρ' s' H' u' je I0).1 i xs[i] (List.getElem?_eq_getElem xh)
   refine .inr ⟨w1,λ x H'' Ph=>?_⟩
   obtain⟨y1,y2,y3⟩:=w2 x H'' Ph
   refine⟨ρ',mL,s',xs[i],y2,NM.up y1,y3,?_⟩
   have JM:=y1.fr D _ hd QN
   have R1:=ka.up y1
   cases et:eL xs[i] mL s' with
   | nx e1 s2=>
    simp only[et]at cL
    refine λ ρ2 H2 σ2 u2 fA lQ=>⟨ρ2,e1,s2,fA,lQ,?_⟩
    have hd2:=u2.fr D _ JM.1 JM.2
    have R0:=R1.up u2
    cases eb:test e1 s2 with
    | bad=>simp only[eb,u9,mM]at cL;exact cL.elim
    | ex c s3=>simp only[eb,R.calm,mM]at cL;exact cL.elim
    | ok b s3=>
     simp only[eb,xy,aA]at cL
     intro ρ3 H3 b' u3 nQ S2
     cases (show b=b' from S2)
     have NG:=u3.fr D _ hd2.1 hd2.2
     have QQ:=R0.up u3
     have Qt:Up ρ1 H1 ρ3 H3:=((u'.trans y1).trans u2).trans u3
     cases b with
     | false=>
      rw[if_neg (by decide)]at cL ⊢
      exact⟨xs.length - (i+1),by omega,rfl,xh,by omega,ρ3,e1,s3,acc,Qt,nQ,lQ.up u3,NG.1,NG.2,QQ,cL⟩
     | true=>
      rw[if_pos rfl]at cL ⊢
      refine⟨ρ3,e1,s3,nQ,lQ.up u3,?_⟩
      cases ev:elt e1 s3 with
      | bad=>simp only[ev,u9,mM]at cL;exact cL.elim
      | ex c s4=>simp only[ev,R.calm,mM]at cL;exact cL.elim
      | ok v s4=>
       simp only[ev,xy,aA]at cL
       intro ρ4 H4 x4 u4 RE Rr
       have LX:=u4.fr D _ NG.1 NG.2
       have RZ:=QQ.up u4
       have g5:Gr ρ4 H4 ρ4 (upd H4 D (.lst (ys++[x4]))):=P5 LX.1
       refine⟨LX.1,by omega,xs.length - (i+1),by omega,rfl,xh,by rw[List.length_append];exact Nat.succ_le_succ hy,ρ4,e1,s4,acc++[v],(Qt.trans u4).mod hD LX.2,RE.up g5 λ a ha=>ah λ z=>LX.2 (z ▸ ha),((lQ.up u3).up u4).gr g5,av,LX.2,(RZ.append (.one Rr)).gr g5,cL⟩
   | ex c s1=>simp only[et]at cL;exact cL.elim
   | rt v s2=>simp only[et]at cL;exact cL.elim
   | bk v s2=>simp only[et]at cL;exact cL.elim
   | ct v s2=>simp only[et]at cL;exact cL.elim
   | bad=>simp only[et]at cL;exact cL.elim
  ·have e:i=xs.length:=by omega
   subst e
   rw[List.drop_length]at cL
   unfold bY at cL
   obtain⟨I0,cL⟩:=cL.a7
   exact .inl ⟨(wk.turn ρ' s' H' u' je I0).2,cL ρ' H' (.ref D) (u1.trans u') je ⟨D,ys,rfl,u1.live D hD,QN,hd,ka⟩⟩
theorem Eh {elt tg iter:Expr}{ifs:List Expr}{scope:Scope}{src:Src}{eL:Mt}{test:Eb}{me:Ev}(l:Lc)(uO:eG X scope l)(kZ:X.calm=true)(hi:PI X tg iter (tW T XE src))
  (hg:∀ cl C fp s3 H3,PG (bX X l scope cl C fp s3 H3) tg (tT T yS eL)) (ht:∀ cl C fp s3 H3,FG (bX X l scope cl C fp s3 H3) ifs (iR T yS test)) (he:∀ cl C fp s3 H3,PE (bX X l scope cl C fp s3 H3) elt (tE T yS me))
  (hs:∀ x,foldedSetIterable iter X.env x=pure x:=by intro _;rfl):PE X (.ListComp elt [⟨tg,iter,ifs,0⟩] scope pos) (tL T XE (cj l src eL test me)):=
 PE.imp (DQ l uO kZ hi hg ht he hs) λ _ _ _ h=>xu h
theorem HL {r:dY}{σ:St}{H:Hp}{Q:VK}(h:tE T XE (aR r) σ H Q):tL T XE r σ H Q:=by
 obtain⟨ρ,env,s,hs,he,ho⟩:=h
 refine⟨ρ,env,s,hs,he,?_⟩
 unfold aR at ho
 cases e:r env s with
 | bad=>rw[e]at ho;exact ho
 | ex c s1=>rw[e]at ho;exact ho
 | ok vs s1=>
  rw[e]at ho
  intro ρ1 H1 x u sr ⟨a,ws,e1,h0,h1,h2,k⟩
  subst e1
  have g:Gr ρ1 H1 (ρ1++[a]) H1:=⟨List.prefix_append _ _,λ _ _ z=>z,λ _ _ _ z=>z⟩
  refine ho (ρ1++[a]) H1 (.ref a) (u.add h0) (sr.add h1 (OR.lst h2 (k.gr g))) (lh (T:=T) (H:=H1) ?_)
  rw[List.getElem?_append_right (by rw[sr.len];exact Nat.le_refl _),sr.len,Nat.sub_self];rfl
theorem vO {i:Nat}{y:Str}{py zE:Pos}{elt tg iter:Expr}{ifs:List Expr}{scope:Scope}{src:Src}{eL:Mt}{test:Eb}{me:Ev}(l:Lc)(uO:eG X scope l)(kZ:X.calm=true)(hN:X.N.Nodup)(hi:PI X tg iter (tW T XE src))
  (hg:∀ cl C fp s3 H3,PG (bX X l scope cl C fp s3 H3) tg (tT T yS eL)) (ht:∀ cl C fp s3 H3,FG (bX X l scope cl C fp s3 H3) ifs (iR T yS test)) (he:∀ cl C fp s3 H3,PE (bX X l scope cl C fp s3 H3) elt (tE T yS me))
  (hy:X.N[i]? = some y:=by rfl) (hx:X.env.scope.names.lookup y=some .local:=by rfl)
  (Pm:swapsWith (.ListComp elt [⟨tg,iter,ifs,0⟩] scope pos) (some (.Name y py)) zE.line X.env=pure true:=by rfl)
  (hs:∀ x,foldedSetIterable iter X.env x=pure x:=by intro _;rfl) :
  PS X (.Assign [.Name y py] (.ListComp elt [⟨tg,iter,ifs,0⟩] scope pos) zE) (tS T XE (cw i (aR (cj l src eL test me)))):=
 PS.imp (vG l uO kZ hN hy hx hi hg ht he Pm hs) λ D σ H h=>xu (HL (Cp h))
def eB (n:Nat)(body:Ms):List AV->S->R AV:=λ args s=>match body (args.map some++List.replicate (n - args.length) none) s with
 | .rt v s1=>.ok v s1
 | .nx _ s1=>.ok .az s1
 | .ex c s1=>.ex c s1
 | _=>.bad
theorem uS {ρ:List Addr}{H:Hp}{args:List AV}{vs:List V}(N:List Str)(k:aJ T ρ H args vs):ER T ρ H (args.map some++List.replicate (N.length - args.length) none) (L2.start N vs):=by
 refine⟨by simp[L2.start,k.length],λ i v e=>?_⟩
 unfold L2.start
 have hi:i < args.length:=by
  by_cases hi:i < args.length
  ·exact hi
  ·rw[List.getElem?_append_right (by simpa using hi),List.getElem?_replicate]at e
   split at e<;>cases e
 rw[List.getElem?_append_left (by simpa using hi),List.getElem?_map]at e
 cases ea:args[i]? with
 | none=>rw[ea]at e;cases e
 | some w=>
  rw[ea]at e;cases e
  obtain⟨x,ex,q⟩:=k.get ea
  exact⟨x,by rw[List.getElem?_append_left (by simpa[<-k.length]using hi),List.getElem?_map,ex];rfl,q⟩
def aD (n:Nat)(F:List AV->S->R AV)(r:dY):Ev:=λ env s=>(r env s).bind λ vs s1=>if vs.length=n then F vs s1 else .bad
end
end Mm
namespace Ro
open PySem L2
def p8 (top below:Int):Int:=if below < 0 then -((Int.gcd top below:Nat):Int) else ((Int.gcd top below:Nat):Int)
def fr (top below:Int):Int × Int:=(top.fdiv (p8 top below),below.fdiv (p8 top below))
theorem mI {t b:Int}(h:b≠0):0 < Int.gcd t b:=Int.gcd_pos_of_ne_zero_right t h
theorem Jd {t b:Int}(h:b≠0):p8 t b≠0:=by
 have:=mI (t:=t) h
 unfold p8
 split<;>omega
theorem v5 (t b:Int):(p8 t b).natAbs=Int.gcd t b:=by
 unfold p8
 split<;>omega
theorem yA (t b:Int):p8 t b ∣ t:=by
 unfold p8
 split
 ·exact(Int.neg_dvd).mpr (Int.gcd_dvd_left ..)
 ·exact Int.gcd_dvd_left ..
theorem yz (t b:Int):p8 t b ∣ b:=by
 unfold p8
 split
 ·exact(Int.neg_dvd).mpr (Int.gcd_dvd_right ..)
 ·exact Int.gcd_dvd_right ..
theorem n6 {a g:Int}(h:g ∣ a):a.fdiv g * g=a:=Int.fdiv_mul_cancel h
theorem BY {x y v:Int}(h:y ∣ x * v)(h2:Int.gcd x y=1):y ∣ v:=by
 have h1:y.natAbs ∣ x.natAbs * v.natAbs:=by rw[<-Int.natAbs_mul];exact Int.natAbs_dvd_natAbs.mpr h
 have hc:Nat.Coprime y.natAbs x.natAbs:=by
  show Nat.gcd y.natAbs x.natAbs=1
  rw[Nat.gcd_comm]
  exact h2
 exact Int.natAbs_dvd_natAbs.mp (hc.dvd_of_dvd_mul_left h1)
theorem Jf (t b:Int):(fr t b).1 * p8 t b=t:=n6 (yA t b)
theorem E_ (t b:Int):(fr t b).2 * p8 t b=b:=n6 (yz t b)
theorem BI (t b:Int)(h:b≠0):(fr t b).1 * b=t * (fr t b).2:=by
 have h1:=Jf t b
 have h2:=E_ t b
 generalize (fr t b).1=x at *
 generalize (fr t b).2=y at *
 generalize p8 t b=g at *
 subst h1
 rw[<-h2]
 rw[Int.mul_comm y g,<-Int.mul_assoc,Int.mul_right_comm]
theorem Je (t b:Int)(h:b≠0):1<=(fr t b).2:=by
 have h2:=E_ t b
 have hg:=mI (t:=t) h
 have hb:(p8 t b < 0/\b < 0)∨(0 < p8 t b/\0 < b):=by
  unfold p8
  split
  ·left;omega
  ·right;omega
 generalize (fr t b).2=y at *
 generalize p8 t b=g at *
 rcases hb with⟨h3,h4⟩|⟨h3,h4⟩
 ·refine Int.not_lt.mp λ hy=>?_
  have:0<=y * g:=Int.mul_nonneg_of_nonpos_of_nonpos (by omega) (by omega)
  omega
 ·refine Int.not_lt.mp λ hy=>?_
  have:y * g<=0:=Int.mul_nonpos_of_nonpos_of_nonneg (by omega) (by omega)
  omega
theorem Jg (t b:Int)(h:b≠0):Int.gcd (fr t b).1 (fr t b).2=1:=by
 have h1:=Jf t b
 have h2:=E_ t b
 have hg:=mI (t:=t) h
 have hn:=v5 t b
 have e:Int.gcd ((fr t b).1 * p8 t b) ((fr t b).2 * p8 t b)=Int.gcd (fr t b).1 (fr t b).2 * (p8 t b).natAbs:=Int.gcd_mul_right ..
 rw[h1,h2,hn]at e
 have:1 * Int.gcd t b=Int.gcd (fr t b).1 (fr t b).2 * Int.gcd t b:=by rw[Nat.one_mul];exact e
 exact(Nat.eq_of_mul_eq_mul_right hg this).symm
theorem E9 {x y t b:Int}(hb:b≠0)(h1:1<=y)(h2:Int.gcd x y=1)(h3:x * b=t * y):fr t b=(x,y):=by
 have k1:=Je t b hb
 have k2:=Jg t b hb
 have k3:=BI t b hb
 have e:x * (fr t b).2=(fr t b).1 * y:=by
  refine Int.eq_of_mul_eq_mul_right hb ?_
  have e1:x * (fr t b).2 * b=x * b * (fr t b).2:=Int.mul_right_comm ..
  have e2:(fr t b).1 * y * b=(fr t b).1 * b * y:=Int.mul_right_comm ..
  rw[e1,e2,h3,k3,Int.mul_right_comm]
 generalize hx:(fr t b).1=u at *
 generalize hy:(fr t b).2=v at *
 have d1:y ∣ v:=by
  have:y ∣ x * v:=⟨u,by rw[e,Int.mul_comm]⟩
  exact BY this h2
 have d2:v ∣ y:=by
  have:v ∣ u * y:=⟨x,by rw[<-e,Int.mul_comm]⟩
  exact BY this k2
 have ev:v=y:=Int.dvd_antisymm (by omega) (by omega) d2 d1
 have eu:u=x:=by
  rw[ev]at e
  exact(Int.eq_of_mul_eq_mul_right (by omega) e).symm
 rw[show fr t b=(u,v) from by rw[<-hx,<-hy],eu,ev]
def low (top below:Int):Int × Int:=
 (((if below < 0 then -1 else 1) * top).fdiv ((Int.gcd top below:Nat):Int),((if below < 0 then -1 else 1) * below).fdiv ((Int.gcd top below:Nat):Int))
theorem IC (t b:Int)(hb:b≠0):low t b=fr t b:=by
 unfold low fr p8
 by_cases h:b < 0
 ·rw[if_pos h,if_pos h]
  have hg:=mI (t:=t) hb
  have key:∀ a:Int,((Int.gcd t b:Nat):Int) ∣ a->(-1 * a).fdiv ((Int.gcd t b:Nat):Int)=a.fdiv (-((Int.gcd t b:Nat):Int)):=by
   intro a ⟨c,hc⟩
   rw[hc]
   have e1:(-1 * (((Int.gcd t b:Nat):Int) * c))=(-c) * ((Int.gcd t b:Nat):Int):=by
    rw[Int.neg_mul,Int.one_mul,Int.mul_comm,Int.neg_mul]
   have e2:(((Int.gcd t b:Nat):Int) * c)=(-c) * (-((Int.gcd t b:Nat):Int)):=by
    rw[Int.neg_mul_neg,Int.mul_comm]
   rw[e1,Int.mul_fdiv_cancel _ (by omega),e2,Int.mul_fdiv_cancel _ (by omega)]
  rw[key t (Int.gcd_dvd_left ..),key b (Int.gcd_dvd_right ..)]
 ·rw[if_neg h,if_neg h,Int.one_mul,Int.one_mul]
end Ro
namespace Ro
open PySem L2
theorem boot_abs:bootBuiltins "abs"=some (.builtin "abs"):=by decide +kernel
theorem boot_divmod:bootBuiltins "divmod"=some (.builtin "divmod"):=by decide +kernel
theorem boot_list:bootBuiltins "list"=some (.type "list"):=by decide +kernel
theorem boot_tuple:bootBuiltins "tuple"=some (.type "tuple"):=by decide +kernel
theorem boot_int:bootBuiltins "int"=some (.type "int"):=by decide +kernel
theorem boot_bool:bootBuiltins "bool"=some (.type "bool"):=by decide +kernel
theorem boot_str:bootBuiltins "str"=some (.type "str"):=by decide +kernel
theorem boot_isinstance:bootBuiltins "isinstance"=some (.builtin "isinstance"):=by decide +kernel
theorem boot_all:bootBuiltins "all"=some (.builtin "all"):=by decide +kernel
theorem RY:¬ (("cells":Str)="turn"):=by decide +kernel
theorem OJ:(10:Int) ^ (18:Int).toNat=1000000000000000000:=by decide +kernel
end Ro
namespace L2
open PySem PySem.Spec PyProof.Rows
def M' (K:PySem.W.Frag)(H:Hp)(x:V)(t:String):Prop:=match x with
 | .az=>t="NoneType"
 | .bl _=>t="bool"
 | .int _=>t="int"
 | .str _=>t="str"
 | .ref a=>(t="tuple"/\∃ xs,hR K H a xs)∨(t="list"/\∃ xs,fh K H a xs)∨(t="dict"/\((∃ kvs,H a=some (.dK kvs))∨∃ kvs,H a=some (.dT kvs)))
 | _=>False
def OE (K:PySem.W.Frag):List V->Hp->VK->Prop:=λ xs H Q=>∃ (t:String) (x:V) (n:String) (b:Bool),xs=[x,.ty n]/\M' K H x t/\PySem.W.kitOne K (.type t) (.type n)=some b/\Q (.bl b) H
theorem Cd {X:Cx}:dJ X (.builtin "isinstance") (OE X.K):=by
 intro pins s σ H xs us Q I r h
 obtain⟨t,x,n,b,rfl,hd,e,q⟩:=h
 obtain⟨u,w',rfl,ru,sA⟩:=vals2 r
 obtain rfl:w'=Value.type n:=sA
 have fin:∀ tk,EP X pins σ Q (.bool b) { s with toks:=tk }:=λ tk=>⟨.bl b,H,I.tok tk,rfl,q⟩
 cases x with
 | az=>cases (show t=_ from hd);exact kG I ru .az e fin
 | bl y=>cases (show t=_ from hd);exact kG I ru (.bl y) e fin
 | int y=>cases (show t=_ from hd);exact kG I ru (.int y) e fin
 | str y=>cases (show t=_ from hd);exact kG I ru (.str y) e fin
 | ref a=>
  cases ru
  rcases hd with⟨rfl,ys,q1⟩|⟨rfl,ys,q1⟩|⟨rfl,hk⟩
  ·obtain⟨its,_,p,_⟩:=I.tuple q1
   obtain⟨o,h1,h2,_⟩:=p
   exact PySem.W.kia_one PySem.W.kitx_tuple I.jl ⟨o,h1,h2⟩ e (λ z=>nomatch z) fin
  ·obtain⟨its,_,p,_⟩:=I.list q1
   obtain⟨o,h1,h2,_⟩:=p.isList
   exact PySem.W.kia_one PySem.W.kitx_list I.jl ⟨o,h1,h2⟩ e (λ z=>nomatch z) fin
  ·have z:∃ o,s.heap.get? a=some o/\o.ExactDict:=by
    rcases hk with⟨kvs,hk⟩|⟨kvs,hk⟩
    ·obtain⟨_,_,_,_,o,_,_,e,ex,_⟩:=I.aQ a _ hk
     exact⟨o,e,ex⟩
    ·obtain⟨_,_,_,_,o,_,_,e,ex,_⟩:=I.aQ a _ hk
     exact⟨o,e,ex⟩
   obtain⟨o,h1,h2⟩:=z
   exact PySem.W.kia_one PySem.W.kitx_dict I.jl ⟨o,h1,h2.1⟩ e (λ z=>nomatch z) fin
 | wd y=>exact False.elim hd
 | Gh y=>exact False.elim hd
 | ty y=>exact False.elim hd
end L2
namespace Mm
open PySem L2
section
variable {T:Tx}{XE:gI}{X:Cx}{pos:Pos}
def Kt (T:Tx)(XE:gI)(op:List AV->S->R AV):List V->Hp->VK->Prop:=λ vs H Q=>∃ ρ args s,SR T ρ s H/\aJ T ρ H args vs/\Out T XE (rV T) ρ H (op args s) Q
def OG {α:Type}(T:Tx)(XE:gI)(rl:Rl α V)(op:List AV->S->R α):List V->Hp->VK->Prop:=λ vs H Q=>∃ a ws ρ xs s,vs=[.ref a]/\SR T ρ s H/\(fh T.K H a ws∨hR T.K H a ws)/\aJ T ρ H xs ws/\Out T XE rl ρ H (op xs s) Q
def ua (op:List AV->S->R AV)(r:dY):Ev:=λ env s=>(r env s).bind op
def CJ {α:Type}(op:List AV->S->R α)(r:dY):En->S->R α:=λ env s=>(r env s).bind op
theorem M6 {op:List AV->S->R AV}{r:dY}{σ:St}{H:Hp}{Q:VK}(h:tE T XE (ua op r) σ H Q):Kh (Kt T XE op) (tP T XE r) σ H Q:=by
 obtain⟨ρ,env,s,hs,he,ho⟩:=h
 exact step hs he ho λ v s1 ρ1 H1 x _ u1 aL cb aI ay=>⟨ρ1,v,s1,aL,aI,ay⟩
theorem M3 {α:Type}{rl:Rl α V}{op:List AV->S->R α}{r:dY}{σ:St}{H:Hp}{Q:VK}(h:tG T XE rl (CJ op r) σ H Q):Kh (OG T XE rl op) (qQ (tQ T XE r) um) σ H Q:=by
 obtain⟨ρ,env,s,hs,he,ho⟩:=h
 refine step hs he ho λ v s1 ρ1 H1 x _ u1 aL cb aI ay=>?_
 obtain⟨a,ws,rfl,q,k⟩:=aI
 exact⟨a,ws,ρ1,v,s1,rfl,aL,q,k,ay⟩
theorem Iz {id:String}{op:List AV->S->R AV}{x:Str}{p:Pos}{e:Expr}{es:List Expr}{r:dY}(hc:dJ X (.builtin id) (Kt T XE op)) (hm:X.mg x=none)(hv:bootBuiltins x=some (.builtin id)) (ha:PA X (e :: es) (tP T XE r)) (hg:Gl X x:=by rfl)(hn:x≠"__name__":=by decide)(jm:(x == ("__debug__":Str))=false:=by decide)
  (he:starEach (e :: es) X.env=(false,eval e X.env) :: starEach es X.env:=by rfl) (fe:(backTo pos (starEach es X.env)).any (·.1)=false:=by rfl):PE X (.Call (.Name x p) (e :: es) [] pos) (tE T XE (ua op r)):=
 PE.imp (eM hc hg hm hv ha hn jm he fe) λ _ _ _ h=>M6 h
theorem O3 {α:Type}{rl:Rl α V}{id:String}{op:List AV->S->R α}{x:Str}{p:Pos}{e:Expr}{r:dY}(hc:dJ X (.type id) (OG T XE rl op)) (hm:X.mg x=none)(hv:bootBuiltins x=some (.type id)) (ha:PE X e (tQ T XE r)) (hg:Gl X x:=by rfl)(hn:x≠"__name__":=by decide)(jm:(x == ("__debug__":Str))=false:=by decide)
  (he:starEach [e] X.env=(false,eval e X.env) :: starEach [] X.env:=by rfl) (fe:(backTo pos (starEach [] X.env)).any (·.1)=false:=by rfl):PE X (.Call (.Name x p) [e] [] pos) (tG T XE rl (CJ op r)):=
 PE.imp (ye hc hg hm hv (cf ha fC he) hn jm he fe) λ _ _ _ h=>M3 h
def rb:List AV->S->R AV
 | [.int i],s=>.ok (.int (if i < 0 then -i else i)) s
 | _,_=>.bad
theorem aJ.jh {ρ:List Addr}{H:Hp}{v:AV}{xs:List V}(h:aJ T ρ H [v] xs):∃ x,xs=[x]/\VR T ρ H v x:=by
 obtain⟨x,ys,rfl,k1,k2⟩:=h.cons_inv
 cases k2.nil_inv
 exact⟨x,rfl,k1⟩
theorem aJ.two_inv {ρ:List Addr}{H:Hp}{v w:AV}{xs:List V}(h:aJ T ρ H [v,w] xs):∃ x y,xs=[x,y]/\VR T ρ H v x/\VR T ρ H w y:=by
 obtain⟨x,ys,rfl,k1,k2⟩:=h.cons_inv
 obtain⟨y,rfl,k3⟩:=k2.jh
 exact⟨x,y,rfl,k1,k3⟩
theorem cAbs:dJ X (.builtin "abs") (Kt T XE rb):=by
 intro pins s σ H xs us Q I r ⟨ρ,args,st,sr,va,ho⟩
 unfold rb at ho
 split at ho
 ·obtain⟨x,rfl,k⟩:=va.jh
  cases k.int_inv
  exact Ce pins s σ H _ us Q I r ⟨_,rfl,ho.aK sr dZ⟩
 ·exact ho.elim
def KR:List AV->S->R AV
 | [.int i,.int j],s=>.ok (.int (if j < i then j else i)) s
 | _,_=>.bad
noncomputable def jS:List AV->S->R AV
 | [.int i,.int j],s=>if 0 < j/\JA j then .ok (.tup [.int (i / j),.int (i % j)]) s else .bad
 | _,_=>.bad
theorem Fw:dJ X (.builtin "divmod") (Kt T XE jS):=by
 intro pins s σ H xs us Q I r ⟨ρ,args,st,sr,va,ho⟩
 unfold jS at ho
 split at ho
 ·obtain⟨x,y,rfl,k,k2⟩:=va.two_inv
  cases k.int_inv
  cases k2.int_inv
  obtain⟨hl,ho⟩:=ho.a7
  exact tU pins s σ H _ us Q I r ⟨_,_,rfl,⟨hl.1,hl.2.f⟩,λ p hp=>ho.tup sr hp (.cons dZ (.one dZ))⟩
 ·exact ho.elim
def FR:List AV->S->R AV
 | [.int i],s=>.ok (.int i) s
 | [.bl b],s=>.ok (.int (if b then 1 else 0)) s
 | _,_=>.bad
def hX:List AV->S->R AV
 | [.str z],s=>if z.length<=sizeLine then .ok (.int z.length) s else .bad
 | [v],s=>need (items v s) λ xs=>.ok (.int xs.length) s
 | _,_=>.bad
theorem Qg (hK:X.K=T.K):dJ X (.builtin "len") (Kt T XE hX):=by
 intro pins s σ H xs us Q I r ⟨ρ,args,st,sr,va,ho⟩
 have rest:∀ v,args=[v]->Out T XE (rV T) ρ H (need (items v st) λ xs=>.ok (.int xs.length) st) Q->wpAny (model X.prog X.w) X.A (call (.builtin "len") us) (EP X pins σ Q) X.xe s:=by
  rintro v rfl ho
  obtain⟨ys,e,ho⟩:=ho.ao
  obtain⟨x,rfl,k⟩:=va.jh
  obtain⟨a,vs,rfl,h1,k1⟩:=kF e sr k
  exact tR pins s σ H _ us Q I r ⟨a,vs,rfl,by rw[hK];exact h1,by rw[<-k1.length];exact ho.aK sr dZ⟩
 unfold hX at ho
 split at ho
 ·obtain⟨x,rfl,k⟩:=va.jh
  cases k.str_inv
  obtain⟨hl,ho⟩:=ho.a7
  exact tN pins s σ H _ us Q I r ⟨_,rfl,hl,ho.aK sr dZ⟩
 ·exact rest _ rfl ho
 ·exact ho.elim
def qF:List AV->Option (List Bool)
 | []=>some []
 | .bl i :: r=>(qF r).map (i :: ·)
 | _ :: _=>none
theorem vd:∀ {l:List AV}{ns:List Bool},qF l=some ns->l=ns.map .bl
 | [],_,h=>by cases h;rfl
 | v :: r,ns,h=>by
  cases v<;>try cases h
  rename_i i
  cases e:qF r with
  | none=>rw[show qF (.bl i :: r)=(qF r).map (i :: ·) from rfl,e]at h;cases h
  | some q=>
   rw[show qF (.bl i :: r)=(qF r).map (i :: ·) from rfl,e]at h;cases h
   rw[vd e];rfl
def zQ (xs:List AV)(s:S):R AV:=need (qF xs) λ ns=>.ok (.bl (ns.all id)) s
def OH {α:Type}(T:Tx)(XE:gI)(rl:Rl α V)(op:List AV->S->R α):List V->Hp->VK->Prop:=λ vs H Q=>∃ a ws ρ xs s,vs=[.ref a]/\SR T ρ s H/\H a=some (.lst ws)/\aJ T ρ H xs ws/\Out T XE rl ρ H (op xs s) Q
theorem M4 {α:Type}{rl:Rl α V}{op:List AV->S->R α}{r:dY}{σ:St}{H:Hp}{Q:VK}(h:tG T XE rl (CJ op r) σ H Q):Kh (OH T XE rl op) (qQ (tL T XE r) um) σ H Q:=by
 obtain⟨ρ,env,s,hs,he,ho⟩:=h
 refine step hs he ho λ v s1 ρ1 H1 x _ u1 aL cb aI ay=>?_
 obtain⟨a,ws,rfl,_,_,q,k⟩:=aI
 exact⟨a,ws,ρ1,v,s1,rfl,aL,q,k,ay⟩
theorem Lf {α:Type}{rl:Rl α V}{id:String}{op:List AV->S->R α}{x:Str}{p:Pos}{e:Expr}{r:dY}(hc:dJ X (.builtin id) (OH T XE rl op)) (hm:X.mg x=none)(hv:bootBuiltins x=some (.builtin id)) (ha:PE X e (tL T XE r)) (hg:Gl X x:=by rfl)(hn:x≠"__name__":=by decide)(jm:(x == ("__debug__":Str))=false:=by decide)
  (he:starEach [e] X.env=(false,eval e X.env) :: starEach [] X.env:=by rfl) (fe:(backTo pos (starEach [] X.env)).any (·.1)=false:=by rfl):PE X (.Call (.Name x p) [e] [] pos) (tG T XE rl (CJ op r)):=
 PE.imp (eM hc hg hm hv (cf ha fC he) hn jm he fe) λ _ _ _ h=>M4 h
theorem Qh (hc:X.calm=true):dJ X (.builtin "all") (OH T XE (rV T) zQ):=by
 intro pins s σ H xs us Q I r ⟨a,ws,ρ,ys,st,e,sr,h1,k,ho⟩
 subst e
 obtain⟨ns,e,ho⟩:=ho.ao
 rw[vd e]at k
 rw[k.xB]at h1
 exact yJ hc pins s σ H _ us Q I r ⟨a,ns,rfl,fh.of h1,ho.aK sr dm⟩
def wH (xs:List AV)(s:S):R (List AV):=.ok xs s
theorem M8 (hK:X.K=T.K):dJ X (.type "list") (OG T XE (rL T) wH):=by
 intro pins s σ H xs us Q I r ⟨a,ws,ρ,ys,st,e,sr,h1,k,ho⟩
 subst e
 exact tM pins s σ H _ us Q I r ⟨a,ws,rfl,by rw[hK];exact h1,λ l hl=>ho.lst sr hl k⟩
def wB (v:AV)(s:S):Option String:=match v with
 | .az=>some "NoneType"
 | .bl _=>some "bool"
 | .int _=>some "int"
 | .str _=>some "str"
 | .tup _=>some "tuple"
 | .sq _=>some "list"
 | .ref i=>match s[i]? with
  | some (.lst _)=>some "list"
  | some (.dK _)=>some "dict"
  | some (.dT _)=>some "dict"
  | _=>none
def eK:List String:=["NoneType","bool","int","str","tuple","list","dict"]
def fu (t n:String):Bool:=t == n || (t == "bool" && n == "int")
theorem IH {K:PySem.W.Frag}{t n:String}(ht:t∈eK)(hn:n∈eK):PySem.W.kitOne K (.type t) (.type n)=some (fu t n):=by
 simp only[eK,List.mem_cons,List.not_mem_nil,or_false]at ht hn
 rcases ht with rfl|rfl|rfl|rfl|rfl|rfl|rfl<;>rcases hn with rfl|rfl|rfl|rfl|rfl|rfl|rfl<;>rfl
theorem C1 {ρ:List Addr}{H:Hp}{s:S}{v:AV}{t:String}{x:V}(h:wB v s=some t)(sr:SR T ρ s H)(va:VR T ρ H v x):M' T.K H x t/\t∈eK:=by
 cases v with
 | az=>cases va.gH;cases h;exact⟨rfl,by simp[eK]⟩
 | bl c=>cases va.g8;cases h;exact⟨rfl,by simp[eK]⟩
 | int c=>cases va.int_inv;cases h;exact⟨rfl,by simp[eK]⟩
 | str c=>cases va.str_inv;cases h;exact⟨rfl,by simp[eK]⟩
 | tup c=>obtain⟨a,vs,rfl,h1,k⟩:=va.cK;cases h;exact⟨.inl ⟨rfl,vs,h1⟩,by simp[eK]⟩
 | sq c=>obtain⟨a,vs,rfl,h1,k⟩:=va.fZ;cases h;exact⟨.inr (.inl ⟨rfl,vs,h1.xW⟩),by simp[eK]⟩
 | ref i=>
  have h:(match s[i]? with
  | some (.lst _)=>some "list"
  | some (.dK _)=>some "dict"
  | some (.dT _)=>some "dict"
  | _=>none)=some t:=h
  obtain⟨a,e1,rfl⟩:=va.fN
  split at h
  ·rename_i xs e
   cases h
   obtain⟨b,e2,vs,h1,_⟩:=sr.obj i _ e
   rw[e1]at e2;cases e2
   exact⟨.inr (.inl ⟨rfl,vs,fh.of h1⟩),by simp[eK]⟩
  ·rename_i xs e
   cases h
   obtain⟨b,e2,vs,h1,_⟩:=sr.obj i _ e
   rw[e1]at e2;cases e2
   exact⟨.inr (.inr ⟨rfl,.inl ⟨vs,h1⟩⟩),by simp[eK]⟩
  ·rename_i xs e
   cases h
   obtain⟨b,e2,vs,h1,_⟩:=sr.obj i _ e
   rw[e1]at e2;cases e2
   exact⟨.inr (.inr ⟨rfl,.inr ⟨vs,h1⟩⟩),by simp[eK]⟩
  ·cases h
def dH (n:String)(v:AV)(s:S):R AV:=need (wB v s) λ t=>.ok (.bl (fu t n)) s
theorem Il {n:String}{nm:Str}{p p2:Pos}{e:Expr}{m:Ev}(hK:X.K=T.K)(hn:n∈eK)(hm:X.mg "isinstance"=none)(Pz:X.mg nm=none)(R':bootBuiltins nm=some (.type n)) (ha:PE X e (tE T XE m)) (hg:Gl X "isinstance":=by rfl)(IZ:Gl X nm:=by rfl)(Sl:nm≠"__name__":=by decide)(jm:(nm == ("__debug__":Str))=false:=by decide)
  (he:starEach [e,.Name nm p2] X.env=(false,eval e X.env) :: starEach [.Name nm p2] X.env:=by rfl) (By:starEach [.Name nm p2] X.env=(false,eval (.Name nm p2) X.env) :: starEach [] X.env:=by rfl) (fe:(backTo pos (starEach [.Name nm p2] X.env)).any (·.1)=false:=by rfl) :
  PE X (.Call (.Name "isinstance" p) [e,.Name nm p2] [] pos) (tE T XE (cA (dH n) m)):=
 PE.imp (eM Cd hg hm Ro.boot_isinstance (cf ha (cf (wK (v:=.ty n) IZ Pz R' rfl Sl jm) fC By) he) (by decide) (by decide) he fe) λ σ H Q ⟨ρ,env,s,hs,he,ho⟩=>
  step hs he ho λ v s1 ρ1 H1 x _ u1 aL cb aI ay=>by
   obtain⟨t,e,ay⟩:=ay.ao
   obtain⟨h1,h2⟩:=C1 e aL aI
   exact⟨t,x,n,_,rfl,by rw[hK];exact h1,IH h2 hn,ay.aK aL dm⟩
end
end Mm
namespace Mm
open PySem L2
section
variable {T:Tx}{XE:gI}{X:Cx}{pos:Pos}
def JC (T:Tx)(XE:gI)(op:AV->List AV->S->R AV):V->List V->Hp->VK->Prop:=λ x xs H Q=>∃ ρ v vs s,SR T ρ s H/\VR T ρ H v x/\aJ T ρ H vs xs/\Out T XE (rV T) ρ H (op v vs s) Q
def iY (n:String)(v:AV)(s:S):Option Unit:=match v,n with
 | .str _,"str"=>some ()
 | .sq _,"list"=>some ()
 | .ref i,"list"=>(ak s i).map λ _=>()
 | .ref i,"dict"=>match s[i]? with
  | some (.dK _)=>some ()
  | some (.dT _)=>some ()
  | _=>none
 | _,_=>none
theorem mD {n:String}{ρ:List Addr}{H:Hp}{s:S}{v:AV}{x:V}(h:iY n v s=some ()) (sr:SR T ρ s H)(va:VR T ρ H v x):Nk T.K n x H:=by
 unfold iY at h
 split at h
 ·cases va.str_inv;rfl
 ·obtain⟨a,vs,rfl,h1,k⟩:=va.fZ
  exact .inl ⟨rfl,vs,h1.xW⟩
 ·rename_i i
  cases e:ak s i with
  | none=>rw[e]at h;cases h
  | some xs=>
   obtain⟨a,vs,rfl,_,h1,k⟩:=sr.eA (aw e) va
   exact .inl ⟨rfl,vs,fh.of h1⟩
 ·rename_i i
  obtain⟨a,e1,rfl⟩:=va.fN
  split at h
  ·rename_i xs e
   obtain⟨b,e2,vs,h1,_⟩:=sr.obj i _ e
   rw[e1]at e2;cases e2
   exact .inr (.inr (.inl ⟨rfl,.inl ⟨vs,h1⟩⟩))
  ·rename_i xs e
   obtain⟨b,e2,vs,h1,_⟩:=sr.obj i _ e
   rw[e1]at e2;cases e2
   exact .inr (.inr (.inl ⟨rfl,.inr ⟨vs,h1⟩⟩))
  ·cases h
 ·cases h
def nr (n:String)(op:AV->List AV->S->R AV)(o:Ev)(r:dY):Ev:=λ env s=>(o env s).bind λ v s1=>need (iY n v s1) λ _=>(r env s1).bind λ vs s2=>op v vs s2
theorem Ib {n:String}{op:AV->List AV->S->R AV}{o:Ev}{r:dY}{σ:St}{H:Hp}{Q:VK}(h:tE T XE (nr n op o r) σ H Q):Oi T.K n (JC T XE op) (tE T XE o) (tP T XE r) σ H Q:=by
 obtain⟨ρ,env,s,hs,he,ho⟩:=h
 refine step hs he ho λ v s1 ρ1 H1 x _ u1 aL cb aI ay=>?_
 obtain⟨_,e,ay⟩:=ay.ao
 exact⟨mD e aL aI,step aL cb ay λ vs s2 ρ2 H2 xs _ u2 fA lQ iz cU=>⟨ρ2,v,vs,s2,fA,VR.up u2 aI,iz,cU⟩⟩
theorem A5 {n id:String}{name:Str}{apos br:Pos}{o e:Expr}{es:List Expr}{op:AV->List AV->S->R AV}{m:Ev}{r:dY}(hK:X.K=T.K)(pa:PlainAttrs n)(slot:Slot n name id)(Br:typeOf (.builtin id)=pure (.type "method_descriptor")) (hm:yT X id (JC T XE op)) (ho:PE X o (tE T XE m)) (ha:PA X (e :: es) (tP T XE r))
  (i4:attributeBase o name X.env (eval o X.env)=eval o X.env:=by rfl)
  (vY:((backTo br (starEach (e :: es) X.env)).all (λ x=>!x.1) && (backToKw br (keywordEach [] X.env)).all (λ x=>x.1.isSome)
   && decide ((e :: es).length+([]:List Keyword).length+(if ([]:List Keyword).isEmpty then 0 else 1) < 30))=true:=by rfl)
  (i3:(apos.endLine == br.line)=true:=by rfl) (hs:starEach (e :: es) X.env=(false,eval e X.env) :: starEach es X.env:=by rfl) (lJ:(backTo br (starEach es X.env)).any (·.1)=false:=by rfl) :
  PE X (.Call (.Attribute o name apos) (e :: es) [] br) (tE T XE (nr n op m r)):=
 PE.imp (Ao hK pa slot Br hm ho ha i4 vY i3 hs lJ) λ _ _ _ h=>Ib h
def rm (n:String)(op:AV->List AV->S->R AV)(o:Ev):Ev:=λ env s=>(o env s).bind λ v s1=>need (iY n v s1) λ _=>op v [] s1
theorem wX {n id:String}{name:Str}{apos br:Pos}{o:Expr}{op:AV->List AV->S->R AV}{m:Ev}(hK:X.K=T.K)(pa:PlainAttrs n)(slot:Slot n name id)(Br:typeOf (.builtin id)=pure (.type "method_descriptor")) (hm:yT X id (JC T XE op)) (ho:PE X o (tE T XE m))
  (i4:attributeBase o name X.env (eval o X.env)=eval o X.env:=by rfl) (i3:(apos.endLine == br.line)=true:=by rfl):PE X (.Call (.Attribute o name apos) [] [] br) (tE T XE (rm n op m)):=
 PE.imp (Ap pa slot Br hm ho i4 i3) λ σ H Q ⟨ρ,env,s,hs,he,ho⟩=>step hs he ho λ v s1 ρ1 H1 x _ u1 aL cb aI ay=>by
  obtain⟨_,e,ay⟩:=ay.ao
  exact⟨by rw[hK];exact mD e aL aI,ρ1,v,[],s1,aL,aI,.nil,ay⟩
theorem Out.Ot {α β:Type}{rl:Rl α β}{ρ:List Addr}{H:Hp}{s:S}{i:Nat}{a:Addr}{vs ws:List V}{ys:List AV}{v:α}{x:β}{Q:β->Hp->Prop}(ho:Out T XE rl ρ H (.ok v (s.set i (.lst ys))) Q) (sr:SR T ρ s H)(ea:ρ[i]? = some a)(h1:H a=some (.lst vs)) (k:aJ T ρ H ys ws)(hx:rl.r H ρ (upd H a (.lst ws)) v x):Q x (upd H a (.lst ws)):=by
 have up:Up ρ H ρ (upd H a (.lst ws)):=sr.qN ea h1 (λ _ z=>nomatch z) (λ _ _ z=>nomatch z)
 exact ho ρ _ x up (sr.set ea up (OR.lst av (k.up up))) hx
theorem Out.zG {ρ:List Addr}{H:Hp}{s:S}{i:Nat}{a:Addr}{vs ws:List V}{ys:List AV}{v:AV}{x:V}{Q:VK}(ho:Out T XE (rV T) ρ H (.ok v (s.set i (.lst ys))) Q) (sr:SR T ρ s H)(ea:ρ[i]? = some a)(h1:H a=some (.lst vs)) (k:aJ T ρ H ys ws)(hx:VR T ρ (upd H a (.lst ws)) v x):Q x (upd H a (.lst ws)):=ho.Ot sr ea h1 k hx
def bP:AV->List AV->S->R AV
 | .ref i,[w],s=>need (ak s i) λ xs=>if xs.length < sizeLine then .ok .az (s.set i (.lst (xs++[w]))) else .bad
 | _,_,_=>.bad
theorem Fp:yT X "list.append" (JC T XE bP):=by
 intro pins s σ H x xs v us Q I rx rv ⟨ρ,a,vs,st,sr,va,vb,ho⟩
 unfold bP at ho
 split at ho
 ·obtain⟨ys,e,ho⟩:=ho.ao
  obtain⟨hl,ho⟩:=ho.a7
  obtain⟨p,ws,rfl,ea,h1,k⟩:=sr.eA (aw e) va
  obtain⟨y,rfl,k2⟩:=vb.jh
  exact rh pins s σ H _ _ v us Q I rx rv ⟨p,ws,y,rfl,rfl,h1,by rw[<-k.length];exact hl,ho.zG sr ea h1 (k.append (.one k2)) mT⟩
 ·exact ho.elim
def iV:AV->List AV->S->R AV
 | .ref i,[],s=>need (ak s i) λ xs=>.ok .az (s.set i (.lst xs.reverse))
 | _,_,_=>.bad
theorem B4:yT X "list.reverse" (JC T XE iV):=by
 intro pins s σ H x xs v us Q I rx rv ⟨ρ,a,vs,st,sr,va,vb,ho⟩
 unfold iV at ho
 split at ho
 ·obtain⟨ys,e,ho⟩:=ho.ao
  obtain⟨p,ws,rfl,ea,h1,k⟩:=sr.eA (aw e) va
  cases vb.nil_inv
  exact vN pins s σ H _ _ v us Q I rx rv ⟨p,ws,rfl,rfl,h1,ho.zG sr ea h1 k.reverse mT⟩
 ·exact ho.elim
def qY:AV->List AV->S->R AV
 | .ref i,[.int j],s=>need (ak s i) λ xs=>if 0<=j/\j < xs.length then need xs[j.toNat]? λ y=>.ok y (s.set i (.lst (xs.eraseIdx j.toNat))) else .bad
 | _,_,_=>.bad
theorem aJ.erase {ρ:List Addr}{H:Hp}:∀ {l:List AV}{xs:List V}(i:Nat),aJ T ρ H l xs->aJ T ρ H (l.eraseIdx i) (xs.eraseIdx i)
 | [],_,_,h=>by cases h.nil_inv;exact .nil
 | _ :: _,_,0,h=>by obtain⟨x,ys,rfl,_,k⟩:=h.cons_inv;exact k
 | _ :: _,_,i+1,h=>by obtain⟨x,ys,rfl,k1,k⟩:=h.cons_inv;exact .cons k1 (aJ.erase i k)
theorem Mv:yT X "list.pop" (JC T XE qY):=by
 intro pins s σ H x xs v us Q I rx rv ⟨ρ,a,vs,st,sr,va,vb,ho⟩
 unfold qY at ho
 split at ho
 ·rename_i i0 j
  obtain⟨ys,e,ho⟩:=ho.ao
  obtain⟨hj,ho⟩:=ho.a7
  obtain⟨y,ey,ho⟩:=ho.ao
  obtain⟨p,ws,rfl,ea,h1,k⟩:=sr.eA (aw e) va
  obtain⟨z,rfl,k2⟩:=vb.jh
  cases k2.int_inv
  obtain⟨y',SU,ky⟩:=k.get ey
  have hl:=k.length
  obtain⟨its,_,_,hz⟩:=I.list (fh.of h1)
  have TV:=jX
  have up:Up ρ H ρ (upd H p (.lst (ws.eraseIdx j.toNat))):=sr.qN ea h1 (λ _ z=>nomatch z) (λ _ _ z=>nomatch z)
  refine AM pins s σ H _ _ v us Q I rx rv ⟨p,ws,j,j.toNat,y',rfl,rfl,h1,by omega,by omega,LC hj.1 (by rw[<-hl];exact hj.2),SU,ho.zG sr ea h1 (k.erase _) (VR.up up ky)⟩
 ·exact ho.elim
section
variable {κ:Type} [DecidableEq κ]
def aP:List (κ × AV)->κ->Option AV
 | [],_=>none
 | p :: r,k=>if p.1=k then some p.2 else aP r k
def eI (kvs:List (κ × AV)) (k:κ)(v:AV):List (κ × AV):=
 if (kvs.any λ kv=>decide (kv.1=k))=true then kvs.map (λ kv=>if kv.1=k then (kv.1,v) else kv) else kvs++[(k,v)]
theorem dQ {ρ:List Addr}{H:Hp}(k:κ):∀ {kvs:List (κ × AV)}{ks:List (κ × V)},kvs.map (·.1)=ks.map (·.1)->aJ T ρ H (kvs.map (·.2)) (ks.map (·.2))->(∀ v,aP kvs k=some v->∃ x,gR ks k=some x/\VR T ρ H v x)/\(aP kvs k=none->gR ks k=none)
 | [],ks,e,h=>by
  cases ks with
  | nil=>exact⟨(λ v z=>nomatch z),λ _=>rfl⟩
  | cons a r=>cases e
 | p :: r,ks,e,h=>by
  cases ks with
  | nil=>cases e
  | cons q t=>
   rw[List.map_cons,List.map_cons,List.cons.injEq]at e
   rw[List.map_cons,List.map_cons]at h
   obtain⟨x,ys,e2,k1,k2⟩:=h.cons_inv
   rw[List.cons.injEq]at e2
   obtain⟨R5,R4⟩:=dQ k e.2 (e2.2 ▸ k2)
   unfold aP
   by_cases hp:p.1=k
   ·rw[if_pos hp,jK (e.1 ▸ hp)]
    refine⟨λ v z=>?_,λ z=>nomatch z⟩
    cases z
    exact⟨q.2,rfl,e2.1 ▸ k1⟩
   ·rw[if_neg hp,jL (λ z=>hp (e.1.trans z))]
    exact⟨R5,R4⟩
theorem sF {ρ:List Addr}{H:Hp}(k:κ){v:AV}{x:V}(kv:VR T ρ H v x){kvs:List (κ × AV)}{ks:List (κ × V)}(e:kvs.map (·.1)=ks.map (·.1)) (h:aJ T ρ H (kvs.map (·.2)) (ks.map (·.2))) :
  (eI kvs k v).map (·.1)=(putK ks k x).map (·.1)/\aJ T ρ H ((eI kvs k v).map (·.2)) ((putK ks k x).map (·.2)):=by
 have an:∀ {kvs:List (κ × AV)}{ks:List (κ × V)},kvs.map (·.1)=ks.map (·.1)->(kvs.any λ kv=>decide (kv.1=k))=(ks.any λ kv=>decide (kv.1=k)):=by
  intro kvs
  induction kvs with
  | nil=>intro ks e;cases ks with|nil=>rfl|cons a r=>cases e
  | cons p r ih=>
   intro ks e
   cases ks with
   | nil=>cases e
   | cons q t=>
    rw[List.map_cons,List.map_cons,List.cons.injEq]at e
    rw[List.any_cons,List.any_cons,ih e.2,e.1]
 unfold eI putK
 rw[an e]
 by_cases ha:(ks.any λ kv=>decide (kv.1=k))=true
 ·rw[if_pos ha,if_pos ha]
  clear ha an
  induction kvs generalizing ks with
  | nil=>cases ks with|nil=>exact⟨rfl,.nil⟩|cons a r=>cases e
  | cons p r ih=>
   cases ks with
   | nil=>cases e
   | cons q t=>
    rw[List.map_cons,List.map_cons,List.cons.injEq]at e
    rw[List.map_cons,List.map_cons]at h
    obtain⟨y,ys,e2,k1,k2⟩:=h.cons_inv
    rw[List.cons.injEq]at e2
    obtain⟨i1,i2⟩:=ih e.2 (e2.2 ▸ k2)
    simp only[List.map_cons,e.1]
    by_cases hq:q.1=k
    ·rw[if_pos hq,if_pos hq,i1];exact⟨rfl,.cons kv i2⟩
    ·rw[if_neg hq,if_neg hq,i1,e.1];exact⟨rfl,.cons (e2.1 ▸ k1) i2⟩
 ·rw[if_neg ha,if_neg ha,List.map_append,List.map_append,List.map_append,List.map_append,e]
  exact⟨rfl,h.append (.one kv)⟩
end
def f7:AV->Option Key
 | .int i=>some (.inl i)
 | .str x=>some (.inr x)
 | _=>none
theorem fU {ρ:List Addr}{H:Hp}{v:AV}{k:Key}{x:V}(h:f7 v=some k)(va:VR T ρ H v x):x=kV k:=by
 cases v<;>try cases h
 ·cases va.int_inv;rfl
 ·cases va.str_inv;rfl
def gC (s:S)(i:Nat):Option (List (Key × AV)):=match s[i]? with
 | some (.dK xs)=>some xs
 | _=>none
theorem fP {s:S}{i:Nat}{xs:List (Key × AV)}(h:gC s i=some xs):s[i]? = some (.dK xs):=by
 unfold gC at h
 split at h
 ·cases h;assumption
 ·cases h
theorem iI {s:S}{i:Nat}{xs:List (Key × AV)}(h:s[i]? = some (.dK xs)):gC s i=some xs:=by unfold gC;rw[h]
def bc:AV->AV->S->R AV
 | .ref i,y,s=>need (gC s i) λ kvs=>need (f7 y) λ k=>need (aP kvs k) λ v=>.ok v s
 | _,_,_=>.bad
theorem EB {o i:Expr}{m n:Ev}(hu:X.A.units+1 < cLine)(ho:PE X o (tE T XE m)) (hi:PE X i (tE T XE n)) (hs:Jz i:=by exact λ _ _=>rfl):PE X (.Subscript o i pos) (tE T XE (ae bc m n)):=
 PE.imp (DP hu ho hi hs) λ σ H Q ⟨ρ,env,s,hs,he,ho⟩=>step hs he ho λ v s1 ρ1 H1 x _ u1 aL cb aI ay=>step aL cb ay λ w s2 ρ2 H2 y _ u2 fA lQ iz cU=>by
  have aI:VR T ρ2 H2 v x:=VR.up u2 aI
  cases v with
  | ref i=>
   obtain⟨kvs,e1,cU⟩:=cU.ao
   obtain⟨k,e2,cU⟩:=cU.ao
   obtain⟨z,e3,cU⟩:=cU.ao
   obtain⟨a,ks,rfl,ea,h1,q1,q2⟩:=fA.qE (fP e1) aI
   obtain⟨x',ex,kx⟩:=(dQ k q1 q2).1 z e3
   exact⟨a,x',rfl,by rw[fU e2 iz,<-ex];exact jz.k h1,cU.aK fA kx⟩
  | _=>exact cU.elim
def jT:AV->AV->S->R AV
 | y,.ref i,s=>need (gC s i) λ kvs=>need (f7 y) λ k=>.ok (.bl (aP kvs k).isSome) s
 | _,_,_=>.bad
def pI:AV->AV->S->R AV
 | y,.ref i,s=>need (gC s i) λ kvs=>need (f7 y) λ k=>.ok (.bl (!(aP kvs k).isSome)) s
 | _,_,_=>.bad
theorem wb {op:AV->AV->S->R AV}{b:Bool->Bool}(Bt:∀ y w s,op y w s=(match w with|.ref i=>need (gC s i) λ kvs=>need (f7 y) λ k=>.ok (.bl (b (aP kvs k).isSome)) s|_=>.bad)) {m n:Ev}{σ:St}{H:Hp}{Q:VK}(h:tE T XE (ae op m n) σ H Q) :
  tE T XE m σ H λ y H1=>tE T XE n σ H1 λ x H2=>∃ a o,x=.ref a/\jz H2 a y o/\Q (.bl (b o.isSome)) H2:=by
 obtain⟨ρ,env,s,hs,he,ho⟩:=h
 refine step hs he ho λ v s1 ρ1 H1 x _ u1 aL cb aI ay=>step aL cb ay λ w s2 ρ2 H2 y _ u2 fA lQ iz cU=>?_
 rw[Bt]at cU
 have iz:VR T ρ2 H2 w y:=iz
 cases w with
 | ref i=>
  obtain⟨kvs,e1,cU⟩:=cU.ao
  obtain⟨k,e2,cU⟩:=cU.ao
  obtain⟨a,ks,rfl,ea,h1,q1,q2⟩:=fA.qE (fP e1) iz
  have vk:=fU e2 (VR.up u2 aI)
  refine⟨a,gR ks k,rfl,by rw[vk];exact jz.k h1,?_⟩
  have:(gR ks k).isSome=(aP kvs k).isSome:=by
   cases ev:aP kvs k with
   | none=>rw[(dQ k q1 q2).2 ev];rfl
   | some z=>obtain⟨x',ex,_⟩:=(dQ k q1 q2).1 z ev;rw[ex];rfl
  rw[this]
  exact cU.aK fA dm
 | _=>exact cU.elim
theorem Iv {o i:Expr}{m n:Ev}(hu:X.A.units+1 < cLine)(hi:PE X i (tE T XE m)) (ho:PE X o (tE T XE n)) (h1:behindInMarks .In o=false:=by rfl):PE X (.Compare i [.In] [o] pos) (tE T XE (ae jT m n)):=
 PE.imp (Hv (Aq hu hi ho) h1) λ σ H Q h=>wb (b:=id) (λ y w s=>by cases w<;>rfl) h
theorem G_ {o i:Expr}{m n:Ev}(hu:X.A.units+1 < cLine)(hi:PE X i (tE T XE m)) (ho:PE X o (tE T XE n)) (h1:behindInMarks .In o=false:=by rfl):PT X (.Compare i [.In] [o] pos) (iR T XE (cB (ae jT m n))):=
 PT.imp (zU (Aq hu hi ho) h1) λ σ H Q h=>wb (b:=id) (λ y w s=>by cases w<;>rfl) (zy h)
theorem Dv {o i:Expr}{m n:Ev}(hu:X.A.units+1 < cLine)(hi:PE X i (tE T XE m)) (ho:PE X o (tE T XE n)) (h1:behindInMarks .NotIn o=false:=by rfl):PT X (.Compare i [.NotIn] [o] pos) (iR T XE (cB (ae pI m n))):=
 PT.imp (zU (yf hu hi ho) h1) λ σ H Q h=>wb (b:=not) (λ y w s=>by cases w<;>rfl) (zy h)
def putD (v d y:AV)(env:En)(s:S):RS:=match d with
 | .ref i=>match gC s i,f7 y with
  | some kvs,some k=>if kvs.length < sizeLine then .nx env (s.set i (.dK (eI kvs k v))) else .bad
  | _,_=>.bad
 | _=>.bad
def jO (d y v:Ev):Ms:=λ env s=>(v env s).dI λ a s1=>(d env s1).dI λ b s2=>(y env s2).dI λ c s3=>putD a b c env s3
theorem Ee {o i value:Expr}{pos':Pos}{m n r:Ev}(hu:X.A.units+1 < cLine)(ho:PE X o (tE T XE m)) (hi:PE X i (tE T XE n)) (hv:PE X value (tE T XE r)) (hs:swapsWith value (some (.Subscript o i pos')) pos.line X.env=pure false:=by rfl):PS X (.Assign [.Subscript o i pos'] value pos) (tS T XE (jO m n r)):=
 PS.imp (DA hu ho hi hv hs) λ D σ H ⟨ρ,env,s,hs,he,ho⟩=>fm hs he ho λ v s1 ρ1 H1 x _ u1 aL cb aI ay=>fm aL cb ay λ d s2 ρ2 H2 y _ u2 fA lQ iz cU=>fm fA lQ cU λ c s3 ρ3 H3 z _ u3 nQ uT N4 jH=>by
  have iz:VR T ρ3 H3 d y:=VR.up u3 iz
  have aI:VR T ρ3 H3 v x:=VR.up (u2.trans u3) aI
  unfold putD at jH
  split at jH
  ·split at jH
   ·rename_i i kvs k e1 e2
    obtain⟨hl,jH⟩:=jH.a7
    obtain⟨a,ks,rfl,ea,h1,q1,q2⟩:=nQ.qE (fP e1) iz
    have JK:kvs.length=ks.length:=by have:=congrArg List.length q1;simpa using this
    refine⟨a,_,rfl,by rw[fU e2 N4];exact wx.k h1 (by rw[<-JK];exact hl),?_⟩
    obtain⟨p1,p2⟩:=sF k aI q1 q2
    have up:Up ρ3 H3 ρ3 (upd H3 a (.dK (putK ks k x))):=nQ.qN ea h1 (λ _ z=>nomatch z) (λ _ _ z=>nomatch z)
    exact jH ρ3 _ σ up (nQ.set ea up ⟨_,av,p1,p2.up up⟩) (uT.up up)
   ·exact jH.elim
  ·exact jH.elim
def Ay (d y z:AV)(s:S):R AV:=match d with
 | .ref i=>need (gC s i) λ kvs=>need (f7 y) λ k=>.ok ((aP kvs k).getD z) s
 | _=>.bad
def pS (d y z:Ev):Ev:=λ env s=>(d env s).bind λ a s1=>need (iY "dict" a s1) λ _=>(y env s1).bind λ b s2=>(z env s2).bind λ c s3=>Ay a b c s3
theorem Bo {ρ:List Addr}{H:Hp}{s:S}{v:AV}{x:V}(h:iY "dict" v s=some ()) (sr:SR T ρ s H)(va:VR T ρ H v x):∃ a,x=.ref a/\NX H a:=by
 have:=mD h sr va
 cases v with
 | ref i=>
  obtain⟨a,e,rfl⟩:=va.fN
  refine⟨a,rfl,?_⟩
  rcases this with⟨z,_⟩|⟨z,_⟩|⟨_,⟨kvs,z⟩|⟨kvs,z⟩⟩|⟨z,_⟩
  ·exact absurd z (by decide)
  ·exact absurd z (by decide)
  ·exact .inl ⟨kvs,.inl z⟩
  ·exact .inr ⟨kvs,.inl z⟩
  ·exact absurd z (by decide)
 | _=>cases h
theorem Ey {o e f:Expr}{apos br:Pos}{m n r:Ev}(hu:X.A.units+1 < cLine)(ho:PE X o (tE T XE m)) (he:PE X e (tE T XE n)) (hf:PE X f (tE T XE r)) (q:M2 X o "get" apos e f br:=by exact⟨rfl,rfl,rfl,rfl⟩):PE X (.Call (.Attribute o "get" apos) [e,f] [] br) (tE T XE (pS m n r)):=
 PE.imp (Al hu ho he hf q) λ σ H Q ⟨ρ,env,s,hs,he,ho⟩=>step hs he ho λ d s1 ρ1 H1 x _ u1 aL cb aI ay=>by
  obtain⟨_,e0,ay⟩:=ay.ao
  obtain⟨a,rfl,hd⟩:=Bo e0 aL aI
  refine⟨a,rfl,hd,step aL cb ay λ w s2 ρ2 H2 y _ u2 fA lQ iz cU=>step fA lQ cU λ z s3 ρ3 H3 z' _ u3 nQ uT N4 jH=>?_⟩
  have aI:VR T ρ3 H3 d (.ref a):=VR.up (u2.trans u3) aI
  cases d with
  | ref i=>
   obtain⟨kvs,e1,jH⟩:=jH.ao
   obtain⟨k,e2,jH⟩:=jH.ao
   obtain⟨b,ks,eb,ea,h1,q1,q2⟩:=nQ.qE (fP e1) aI
   cases eb
   refine⟨gR ks k,by rw[fU e2 (VR.up u3 iz)];exact jz.k h1,?_⟩
   cases ev:aP kvs k with
   | none=>rw[(dQ k q1 q2).2 ev];rw[ev]at jH;exact jH.aK nQ N4
   | some v=>obtain⟨x',ex,kx⟩:=(dQ k q1 q2).1 v ev;rw[ex];rw[ev]at jH;exact jH.aK nQ kx
  | _=>exact jH.elim
def vj:Ev:=λ _ s=>.ok (.ref s.length) (s++[.dK []])
theorem Lo:PE X (.Dict [] [] pos) (tE T XE vj):=
 PE.imp Ak λ σ H Q ⟨ρ,env,s,hs,he,ho⟩ p hp=>ho.alloc hs hp ⟨[],av,rfl,.nil⟩
def yP:List (Ev × Ev)->En->S->R (List (AV × AV))
 | [],_,s=>.ok [] s
 | (a,b) :: r,env,s=>(a env s).bind λ v s1=>(b env s1).bind λ w s2=>(yP r env s2).bind λ l s3=>.ok ((v,w) :: l) s3
def pV:List (AV × AV)->Option (List (Key × AV))
 | []=>some []
 | (a,b) :: r=>(f7 a).bind λ k=>(pV r).map ((k,b) :: ·)
def sQ (kvs more:List (Key × AV)):List (Key × AV):=more.foldl (λ acc kv=>eI acc kv.1 kv.2) kvs
def jB (l:List (Ev × Ev)):Ev:=λ env s=>(yP l env s).bind λ ps s1=>need (pV ps) λ kvs=>if kvs.length<=15 then .ok (.ref s1.length) (s1++[.dK (sQ [] kvs)]) else .bad
def Ri (T:Tx)(ρ:List Addr)(H:Hp)(ps:List (AV × AV)) (xs:List (V × V)):Prop:=aJ T ρ H (ps.map (·.1)) (xs.map (·.1))/\aJ T ρ H (ps.map (·.2)) (xs.map (·.2))
theorem bind_assoc {α β γ:Type}(r:R α)(f:α->S->R β)(g:β->S->R γ):(r.bind f).bind g=r.bind λ a s=>(f a s).bind g:=by cases r<;>rfl
theorem uw {α β:Type}{rl:Rl α β}{Q:β->Hp->Prop}{env:En}{σ:St}:∀ (l:List (Ev × Ev)) {ρ:List Addr}{s:S}{H:Hp}{k:List (AV × AV)->S->R α}{F:List (V × V)->Hp->Prop},SR T ρ s H->ER T ρ H env σ->Out T XE rl ρ H ((yP l env s).bind k) Q->
  (∀ ps s1 ρ1 H1 xs,yP l env s=.ok ps s1->Up ρ H ρ1 H1->SR T ρ1 s1 H1->ER T ρ1 H1 env σ->Ri T ρ1 H1 ps xs->F xs H1)->sj (l.map λ p=>(tE T XE p.1,tE T XE p.2)) σ H F
 | [],ρ,s,H,k,F,hs,he,ho,hk=>hk [] s ρ H [] rfl .refl hs he ⟨.nil,.nil⟩
 | (a,b) :: r,ρ,s,H,k,F,hs,he,ho,hk=>by
  have e:(yP ((a,b) :: r) env s).bind k=(a env s).bind λ v s1=>(b env s1).bind λ w s2=>(yP r env s2).bind λ l s3=>k ((v,w) :: l) s3:=by
   show((a env s).bind λ v s1=>(b env s1).bind λ w s2=>(yP r env s2).bind λ l s3=>.ok ((v,w) :: l) s3).bind k=_
   rw[bind_assoc]
   congr 1;funext v s1
   rw[bind_assoc]
   congr 1;funext w s2
   rw[bind_assoc]
   rfl
  rw[e]at ho
  refine step hs he ho λ v s1 ρ1 H1 x q1 u1 aL cb aI ay=>step aL cb ay λ w s2 ρ2 H2 y q2 u2 fA lQ iz cU=>?_
  refine uw r fA lQ cU λ ps s3 ρ3 H3 xs q3 u3 nQ uT vp=>hk ((v,w) :: ps) s3 ρ3 H3 _ (by have q1:a env s=.ok v s1:=q1;have q2:b env s1=.ok w s2:=q2;show((a env s).bind λ v s1=>(b env s1).bind λ w s2=>(yP r env s2).bind λ l s3=>.ok ((v,w) :: l) s3)=_;rw[q1,aA,q2,aA,q3,aA]) ((u1.trans u2).trans u3) nQ uT ⟨?_,?_⟩
  ·exact .cons (VR.up (u2.trans u3) aI) vp.1
  ·exact .cons (VR.up u3 iz) vp.2
theorem rE {ρ:List Addr}{H:Hp}:∀ {ps:List (AV × AV)}{kvs:List (Key × AV)}{xs:List (V × V)},pV ps=some kvs->Ri T ρ H ps xs->∃ ks:List (Key × V),xs=ks.map (λ kv=>(kV kv.1,kv.2))/\kvs.map (·.1)=ks.map (·.1)/\aJ T ρ H (kvs.map (·.2)) (ks.map (·.2))
 | [],kvs,xs,h,vp=>by
  cases h
  have:=vp.1.nil_inv
  cases xs with
  | nil=>exact⟨[],rfl,rfl,.nil⟩
  | cons a r=>cases this
 | (a,b) :: r,kvs,xs,h,vp=>by
  have h:(f7 a).bind (λ k=>(pV r).map ((k,b) :: ·))=some kvs:=h
  cases e1:f7 a with
  | none=>rw[e1]at h;cases h
  | some k=>
   cases e2:pV r with
   | none=>rw[e1,e2]at h;cases h
   | some q=>
    rw[e1,e2]at h
    cases h
    cases xs with
    | nil=>obtain⟨_,_,z,_⟩:=vp.1.cons_inv;cases z
    | cons p xs=>
     obtain⟨x1,y1,z1,k1,k2⟩:=vp.1.cons_inv
     obtain⟨x2,y2,z2,k3,k4⟩:=vp.2.cons_inv
     rw[List.map_cons,List.cons.injEq]at z1 z2
     obtain⟨ks,rfl,q1,q2⟩:=rE e2 ⟨z1.2 ▸ k2,z2.2 ▸ k4⟩
     refine⟨(k,p.2) :: ks,?_,by rw[List.map_cons,List.map_cons,q1],.cons (z2.1 ▸ k3) q2⟩
     rw[List.map_cons,<-fU e1 (z1.1 ▸ k1)]
theorem rj {ρ:List Addr}{H:Hp}:∀ {more:List (Key × AV)}{mo:List (Key × V)}{kvs:List (Key × AV)}{ks:List (Key × V)},more.map (·.1)=mo.map (·.1)->aJ T ρ H (more.map (·.2)) (mo.map (·.2))->kvs.map (·.1)=ks.map (·.1)->aJ T ρ H (kvs.map (·.2)) (ks.map (·.2))->
  (sQ kvs more).map (·.1)=(fD ks mo).map (·.1)/\aJ T ρ H ((sQ kvs more).map (·.2)) ((fD ks mo).map (·.2))
 | [],mo,kvs,ks,e,h,e2,h2=>by
  cases mo with
  | nil=>exact⟨e2,h2⟩
  | cons a r=>cases e
 | p :: r,mo,kvs,ks,e,h,e2,h2=>by
  cases mo with
  | nil=>cases e
  | cons q t=>
   rw[List.map_cons,List.map_cons,List.cons.injEq]at e
   rw[List.map_cons,List.map_cons]at h
   obtain⟨y,ys,z,k1,k2⟩:=h.cons_inv
   rw[List.cons.injEq]at z
   obtain⟨p1,p2⟩:=sF p.1 (z.1 ▸ k1) e2 h2
   have:=rj (kvs:=eI kvs p.1 p.2) (ks:=putK ks q.1 q.2) e.2 (z.2 ▸ k2) (by rw[<-e.1];exact p1) (by rw[<-e.1];exact p2)
   exact this
theorem EA {keys:List (Option Expr)}{values:List Expr}{l:List (Ev × Ev)}(h:Gu X pos keys values (l.map λ p=>(tE T XE p.1,tE T XE p.2))) (BA:keys.all (·.isSome)=true:=by rfl) (hl:keys.length=values.length:=by rfl)(h0:keys≠[]:=by decide)(JP:keys.length<=15:=by decide):PE X (.Dict keys values pos) (tE T XE (jB l)):=
 PE.imp (DO h BA hl h0 JP) λ σ H Q ⟨ρ,env,s,hs,he,ho⟩ p hp=>by
  have u0:=hs.d_ (o:=.dK []) hp
  have n0:=hs.out hp
  refine uw l (hs.new hp) (he.up u0) (Out.up u0 ho) λ ps s1 ρ1 H1 xs q0 u1 aL cb vp=>?_
  unfold jB at ho
  rw[q0,aA]at ho
  obtain⟨kvs,e1,ho⟩:=ho.ao
  obtain⟨hl,ho⟩:=ho.a7
  obtain⟨ks,rfl,q1,q2⟩:=rE e1 vp
  have hd:=u1.fr p _ av n0
  have JK:kvs.length=ks.length:=by have:=congrArg List.length q1;simpa using this
  refine⟨hd.1,ks,rfl,by rw[<-JK];exact hl,?_⟩
  obtain⟨m1,m2⟩:=rj q1 q2 (kvs:=[]) (ks:=[]) rfl .nil
  have g:Gr ρ1 H1 (ρ1++[p]) (upd H1 p (.dK (fD [] ks))):=⟨List.prefix_append _ _,λ b ys e=>by rw[ah (pQ e hd.1 (by intro z;cases z))];exact e,λ b o v e=>by rw[ah (pQ e hd.1 (by intro z;cases z))];exact e⟩
  have g1:Gr ρ1 H1 ρ1 (upd H1 p (.dK (fD [] ks))):=⟨List.prefix_rfl,g.jC,g.iF⟩
  have s2:SR T ρ1 s1 (upd H1 p (.dK (fD [] ks))):=aL.up g1 λ a ha=>ah λ z=>hd.2 (z ▸ ha)
  have s3:SR T (ρ1++[p]) (s1++[.dK (sQ [] kvs)]) (upd H1 p (.dK (fD [] ks))):=s2.add hd.2 ⟨_,av,m1,m2.gr g⟩
  have u2:Up ρ H (ρ1++[p]) (upd H1 p (.dK (fD [] ks))):=((u0.trans u1).mod hp hd.2).add hp
  exact ho _ _ _ u2 s3 (lh (T:=T) (H:=upd H1 p (.dK (fD [] ks))) (by rw[List.getElem?_append_right (by rw[aL.len];exact Nat.le_refl _),aL.len,Nat.sub_self];rfl))
theorem Ef:Gu X pos [] [] (([]:List (Ev × Ev)).map λ p=>(tE T XE p.1,tE T XE p.2)):=DB
theorem AU {k v:Expr}{ks:List (Option Expr)}{vs:List Expr}{a b:Ev}{l:List (Ev × Ev)}(hk:PE X k (tE T XE a)) (hv:PE X v (tE T XE b)) (hr:Gu X pos ks vs (l.map λ p=>(tE T XE p.1,tE T XE p.2))):Gu X pos (some k :: ks) (v :: vs) (((a,b) :: l).map λ p=>(tE T XE p.1,tE T XE p.2)):=zZ hk hv hr
def j_ (o i:Ev):Mt:=λ v env s=>(o env s).dI λ a s1=>(i env s1).dI λ b s2=>match a,b with
 | .ref k,.int j=>match ak s2 k with
  | some xs=>match xb xs.length j with
   | some n=>.nx env (s2.set k (.lst (xs.set n v)))
   | none=>.bad
  | none=>.bad
 | _,_=>.bad
theorem Em {o i:Expr}{m n:Ev}(ho:PE X o (tE T XE m)) (hi:PE X i (tE T XE n))
  (ha:∀ v,assign (.Subscript o i pos) X.env v=(do
   let ov <-holding [v] (eval o X.env)
   let iv <-holding [v,ov] (eval i X.env)
   standAt pos
   holding [v,ov,iv] (setItem ov iv v)
   release [v,ov,iv] []):=by intro _;rfl):PG X (.Subscript o i pos) (tT T XE (j_ m n)):=
 PG.imp (Ad ho hi set_list ha) λ x σ H Q ⟨ρ,env,s,v,hs,he,vr,ho⟩=>by
  refine fm hs he ho λ a s1 ρ1 H1 y _ u1 aL cb aI ay=>fm aL cb ay λ b s2 ρ2 H2 z _ u2 fA lQ iz cU=>?_
  have aI:VR T ρ2 H2 a y:=VR.up u2 aI
  have iz:VR T ρ2 H2 b z:=iz
  have vr:VR T ρ2 H2 v x:=VR.up (u1.trans u2) vr
  split at cU
  ·rename_i k j
   split at cU
   ·rename_i xs e1
    split at cU
    ·rename_i n e2
     obtain⟨p,ws,rfl,ea,h1,k1⟩:=fA.eA (aw e1) aI
     cases iz.int_inv
     have up:Up ρ2 H2 ρ2 (upd H2 p (.lst (ws.set n x))):=fA.qN ea h1 (λ _ z=>nomatch z) (λ _ _ z=>nomatch z)
     exact⟨p,ws,_,n,rfl,rfl,h1,by rw[<-k1.length];exact e2,cU ρ2 _ σ up (fA.set ea up (OR.lst av ((k1.set n vr).up up))) (lQ.up up)⟩
    ·exact cU.elim
   ·exact cU.elim
  ·exact cU.elim
theorem DX {o i:Ev}:kB (j_ o i):=λ v env s=>by
 unfold j_
 cases o env s with
 | bad=>exact .inr (.inr rfl)
 | ex c s1=>exact .inr (.inl ⟨_,_,rfl⟩)
 | ok a s1=>
  simp only[ja]
  cases i env s1 with
  | bad=>exact .inr (.inr rfl)
  | ex c s1=>exact .inr (.inl ⟨_,_,rfl⟩)
  | ok b s2=>
   simp only[ja]
   split
   ·split
    ·split
     ·exact .inl ⟨_,_,rfl⟩
     ·exact .inr (.inr rfl)
    ·exact .inr (.inr rfl)
   ·exact .inr (.inr rfl)
def j':AV->Bool
 | .az=>true
 | .bl _=>true
 | .int _=>true
 | .str _=>true
 | _=>false
def toV:AV->V
 | .bl b=>.bl b
 | .int b=>.int b
 | .str b=>.str b
 | _=>.az
theorem toV_eq {ρ:List Addr}{H:Hp}{v:AV}{x:V}(h:j' v=true)(k:VR T ρ H v x):x=toV v:=by
 cases v with
 | az=>exact k.gH
 | bl b=>exact k.g8
 | int b=>exact k.int_inv
 | str b=>exact k.str_inv
 | _=>cases h
theorem toVs_eq {ρ:List Addr}{H:Hp}:∀ {l:List AV}{xs:List V},l.all j'=true->aJ T ρ H l xs->xs=l.map toV
 | [],_,_,k=>k.nil_inv
 | v :: r,_,h,k=>by
  obtain⟨x,ys,rfl,k1,k2⟩:=k.cons_inv
  rw[List.all_cons,Bool.and_eq_true]at h
  rw[toV_eq h.1 k1,toVs_eq h.2 k2];rfl
theorem mJ:∀ v:AV,mK (toV v)=true:=λ v=>by cases v<;>rfl
def Nx (v:AV)(xs:List AV):Bool:=Nw (toV v) (xs.map toV)
def qw (v w:AV)(s:S):R AV:=need (items w s) λ xs=>if j' v=true/\xs.all j'=true then .ok (.bl (Nx v xs)) s else .bad
def q_ (v w:AV)(s:S):R AV:=need (items w s) λ xs=>if j' v=true/\xs.all j'=true then .ok (.bl (!Nx v xs)) s else .bad
theorem OU (hK:X.K=T.K):hU X (compareOp .In) (qj T XE qw):=by
 intro pins s σ H x y v u Q I rx ry ⟨ρ,a,b,st,sr,va,vb,ho⟩
 obtain⟨xs,e,ho⟩:=ho.ao
 obtain⟨⟨f1,f2⟩,ho⟩:=ho.a7
 obtain⟨p,ws,rfl,h1,k⟩:=kF e sr vb
 have e1:=toV_eq f1 va
 have e2:=toVs_eq f2 k
 subst e1 e2
 exact yh pins s σ H _ _ v u Q I rx ry ⟨p,_,rfl,by rw[hK];exact h1,mJ a,by simp[mJ],ho.aK sr dm⟩
theorem KY (hK:X.K=T.K):hU X (compareOp .NotIn) (qj T XE q_):=by
 intro pins s σ H x y v u Q I rx ry ⟨ρ,a,b,st,sr,va,vb,ho⟩
 obtain⟨xs,e,ho⟩:=ho.ao
 obtain⟨⟨f1,f2⟩,ho⟩:=ho.a7
 obtain⟨p,ws,rfl,h1,k⟩:=kF e sr vb
 have e1:=toV_eq f1 va
 have e2:=toVs_eq f2 k
 subst e1 e2
 exact sI pins s σ H _ _ v u Q I rx ry ⟨p,_,rfl,by rw[hK];exact h1,mJ a,by simp[mJ],ho.aK sr dm⟩
end
end Mm
namespace Mm
open PySem L2
section
variable {T:Tx}{XE:gI}{X:Cx}{pos:Pos}
structure CN (T:Tx)(mg:Str->Option Value)(x:Str)(a:AV):Prop where
 ex:∃ v u,mg x=some u/\RelV v u/\∀ ρ H,VR T ρ H a v
theorem Ik {x:Str}{a:AV}(h:CN T X.mg x a)(hg:Gl X x:=by rfl)(hd:(x == ("__debug__":Str))=false:=by decide):PE X (.Name x pos) (tE T XE (mc a)):=by
 obtain⟨v,u,h1,h2,h3⟩:=h.ex
 exact Ex hg h1 h2 h3 hd
theorem LL {k:Nat}{A:Around}(r:cX k A):A.units+30 < cLine:=by have:=r.un;omega
noncomputable def Md (m:Eb):Eb:=λ env s=>(m env s).bind λ v s1=>open Classical in if s1.take s.length=s then .ok v s else .bad
theorem Kw {e:Expr}{m:Eb}(h:PT X e (iR T XE m)):PT X e (iR T XE (Md m)):=
 PT.imp h λ σ H Q ⟨ρ,env,s,hs,he,ho⟩=>by
  refine⟨ρ,env,s,hs,he,?_⟩
  unfold Md at ho
  cases e:m env s with
  | bad=>rw[e]at ho;exact ho
  | ex c s1=>rw[e]at ho;exact ho
  | ok v s1=>
   rw[e]at ho
   obtain⟨e1,ho⟩:=ho.a7
   intro ρ1 H1 x u sr vr
   have:=sr.cut u.pre hs.len (by rw[e1];exact hs.closed)
   rw[e1]at this
   exact ho ρ H1 x u.cut this vr
def Qz {α:Type}(T:Tx)(XE:gI)(rl:Rl α V)(op:AV->List AV->S->R α):V->List V->Hp->VK->Prop:=λ x xs H Q=>∃ ρ v vs s,SR T ρ s H/\VR T ρ H v x/\aJ T ρ H vs xs/\Out T XE rl ρ H (op v vs s) Q
def BF {α:Type}(n:String)(op:AV->List AV->S->R α)(o:Ev)(r:dY):En->S->R α:=λ env s=>(o env s).bind λ v s1=>need (iY n v s1) λ _=>(r env s1).bind λ vs s2=>op v vs s2
theorem Ia {α:Type}{rl:Rl α V}{n id:String}{name:Str}{apos br:Pos}{o e:Expr}{es:List Expr}{op:AV->List AV->S->R α}{m:Ev}{r:dY}(hK:X.K=T.K)(pa:PlainAttrs n)(slot:Slot n name id)(Br:typeOf (.builtin id)=pure (.type "method_descriptor")) (hm:yT X id (Qz T XE rl op)) (ho:PE X o (tE T XE m)) (ha:PA X (e :: es) (tP T XE r))
  (i4:attributeBase o name X.env (eval o X.env)=eval o X.env:=by rfl)
  (vY:((backTo br (starEach (e :: es) X.env)).all (λ x=>!x.1) && (backToKw br (keywordEach [] X.env)).all (λ x=>x.1.isSome)
   && decide ((e :: es).length+([]:List Keyword).length+(if ([]:List Keyword).isEmpty then 0 else 1) < 30))=true:=by rfl)
  (i3:(apos.endLine == br.line)=true:=by rfl) (hs:starEach (e :: es) X.env=(false,eval e X.env) :: starEach es X.env:=by rfl) (lJ:(backTo br (starEach es X.env)).any (·.1)=false:=by rfl) :
  PE X (.Call (.Attribute o name apos) (e :: es) [] br) (tG T XE rl (BF n op m r)):=
 PE.imp (Ao hK pa slot Br hm ho ha i4 vY i3 hs lJ) λ σ H Q ⟨ρ,env,s,hs,he,ho⟩=>by
  refine step hs he ho λ v s1 ρ1 H1 x _ u1 aL cb aI ay=>?_
  obtain⟨_,e,ay⟩:=ay.ao
  exact⟨mD e aL aI,step aL cb ay λ vs s2 ρ2 H2 xs _ u2 fA lQ iz cU=>⟨ρ2,v,vs,s2,fA,VR.up u2 aI,iz,cU⟩⟩
open PySem.Builtin.Str in
def l9:AV->List AV->S->R (List AV)
 | .str t,[.str sep],s=>if (decide (t.length < sep.length) || decide (strKind t < strKind sep))=false/\(sep.length == 0)=false/\(occurrences t sep 0 t.length (t.length+1)).isEmpty=false/\t.length<=1000/\(partsBetween t (occurrences t sep 0 t.length (t.length+1)) sep.length).length<=1000
   then .ok ((partsBetween t (occurrences t sep 0 t.length (t.length+1)) sep.length).map AV.str) s else .bad
 | _,_,_=>.bad
theorem Jr:yT X "str.split" (Qz T XE (rL T) l9):=by
 intro pins s σ H x xs v us Q I rx rv ⟨ρ,a,vs,st,sr,va,vb,ho⟩
 unfold l9 at ho
 split at ho
 ·obtain⟨⟨c1,c2,c3,c4,c5⟩,ho⟩:=ho.a7
  cases va.str_inv
  obtain⟨y,rfl,k2⟩:=vb.jh
  cases k2.str_inv
  exact AL pins s σ H _ _ v us Q I rx rv ⟨_,_,rfl,rfl,c1,c2,c3,c4,c5,λ l hl=>ho.lst sr hl (aJ.map (λ a=>gQ) _)⟩
 ·exact ho.elim
def o6 (xs ys:List AV):List AV:=(xs.zip ys).map λ p=>AV.tup [p.1,p.2]
def rR (xs:List AV):List AV:=(List.range xs.length).zip xs |>.map λ p=>AV.tup [.int (p.1:Int),p.2]
def qu (c:Bool)(v:AV)(s:S):Option (List AV × Gd):=match v with
 | .tup xs=>if c=true then some (xs,[]) else none
 | .sq xs=>if c=true then none else some (xs,[])
 | .ref i=>if c=true then none else (ak s i).map λ xs=>(xs,[(i,xs)])
 | _=>none
theorem pA {c:Bool}{ρ:List Addr}{H:Hp}{s:S}{v:AV}{xs:List AV}{gs:Gd}{x:V}(h:qu c v s=some (xs,gs)) (sr:SR T ρ s H)(va:VR T ρ H v x):∃ a,x=.ref a/\(∃ vs,t_ c T.K H a vs)/\∀ ρ' s' H',Up ρ H ρ' H'->SR T ρ' s' H'->tm gs s'->∃ vs,t_ c T.K H' a vs/\aJ T ρ' H' xs vs:=by
 cases v with
 | tup ys=>
  have h:(if c=true then some (ys,[]) else none)=some (xs,gs):=h
  split at h
  ·rename_i hc
   cases h
   obtain⟨a,vs,rfl,h1,k⟩:=va.cK
   refine⟨a,rfl,⟨vs,by unfold t_;rw[if_pos hc];exact h1⟩,λ ρ' s' H' u je _=>⟨vs,by unfold t_;rw[if_pos hc];exact u.Kk h1,k.up u⟩⟩
  ·cases h
 | sq ys=>
  have h:(if c=true then none else some (ys,[]))=some (xs,gs):=h
  split at h
  ·cases h
  ·rename_i hc
   cases h
   obtain⟨a,vs,rfl,h1,k⟩:=va.fZ
   refine⟨a,rfl,⟨vs,by unfold t_;rw[if_neg hc];exact h1.xW⟩,λ ρ' s' H' u je _=>⟨vs,by unfold t_;rw[if_neg hc];exact(u.Oq h1).xW,k.up u⟩⟩
 | ref i=>
  have h:(if c=true then none else (ak s i).map λ xs=>(xs,[(i,xs)]))=some (xs,gs):=h
  split at h
  ·cases h
  ·rename_i hc
   cases e:ak s i with
   | none=>rw[e]at h;cases h
   | some ys=>
    rw[e]at h
    cases h
    obtain⟨a,vs,rfl,ea,h1,k⟩:=sr.eA (aw e) va
    refine⟨a,rfl,⟨vs,by unfold t_;rw[if_neg hc];exact fh.of h1⟩,λ ρ' s' H' u je g=>?_⟩
    obtain⟨b,ws,eb,_,h2,k2⟩:=je.eA (aw ((xl i _ s').mp g)) (VR.up u va)
    cases eb
    exact⟨ws,by unfold t_;rw[if_neg hc];exact fh.of h2,k2⟩
 | _=>cases h
def xM (v w:AV)(s:S):Option (List AV × Gd):=
 match qu true v s,qu true w s with
 | some (xs,g),some (ys,h)=>some (o6 xs ys,g++h)
 | _,_=>match qu false v s,qu false w s with
  | some (xs,g),some (ys,h)=>some (o6 xs ys,g++h)
  | _,_=>none
theorem yW {v w:AV}{s:S}{r:List AV × Gd}(h:xM v w s=some r):∃ c xs g ys h,qu c v s=some (xs,g)/\qu c w s=some (ys,h)/\r=(o6 xs ys,g++h):=by
 unfold xM at h
 split at h
 ·rename_i xs g ys h' e1 e2
  cases h
  exact⟨true,xs,g,ys,h',e1,e2,rfl⟩
 ·split at h
  ·rename_i xs g ys h' e1 e2
   cases h
   exact⟨false,xs,g,ys,h',e1,e2,rfl⟩
  ·cases h
def zD (a b:Ev):Src:=λ env s=>(a env s).bind λ v s1=>(b env s1).bind λ w s2=>need (xM v w s2) λ r=>.ok r s2
theorem E8 {g h:Gd}{s:S}(k:tm (g++h) s):tm g s/\tm h s:=⟨λ p hp=>k p (List.mem_append_left _ hp),λ p hp=>k p (List.mem_append_right _ hp)⟩
theorem HZ {es:List Expr}{kk:Nat}{mV:Pos}{e1 e2:Expr}{p:Pos}{a b:Ev}(hK:X.K=T.K)(hm:X.mg "zip"=none)(h1:PE X e1 (tE T XE a)) (h2:PE X e2 (tE T XE b)) (hg:Gl X "zip":=by rfl)
  (hs:starEach [e1,e2] X.env=(false,eval e1 X.env) :: starEach [e2] X.env:=by rfl) (JI:starEach [e2] X.env=[(false,eval e2 X.env)]:=by rfl) (fe:(backTo pos (starEach [e2] X.env)).any (·.1)=false:=by rfl) :
  PI X (.Tuple es kk mV) (.Call (.Name "zip" p) [e1,e2] [] pos) (tW T XE (zD a b)):=
 PI.imp (Hi hg hm h1 h2 hs JI fe) λ σ H R ⟨ρ,env,s,hs,he,ho⟩=>step hs he ho λ v s1 ρ1 H1 x _ u1 aL cb aI ay=>step aL cb ay λ w s2 ρ2 H2 y _ u2 fA lQ iz cU=>by
  obtain⟨r,e,cU⟩:=cU.ao
  obtain⟨c,xs,g,ys,h,q1,q2,rfl⟩:=yW e
  obtain⟨a1,rfl,x1,w1⟩:=pA q1 fA (VR.up u2 aI)
  obtain⟨a2,rfl,x2,w2⟩:=pA q2 fA iz
  refine⟨c,a1,a2,rfl,by rw[hK];exact x1,by rw[hK];exact x2,cU ρ2 H2 _ .refl fA ⟨λ ρ' s' H' u' je gk=>?_⟩⟩
  obtain⟨g1,g2⟩:=E8 gk
  obtain⟨vs,k1,k2⟩:=w1 ρ' s' H' u' je g1
  obtain⟨ws,k3,k4⟩:=w2 ρ' s' H' u' je g2
  rw[hK]
  have vm:=k2.length
  have sZ:=k4.length
  refine⟨λ j z ez=>?_,⟨vs,ws,k1,k3,?_⟩⟩
  ·have hj:j < xs.length/\j < ys.length:=by
    have:=(List.getElem?_eq_some_iff.mp ez).1
    simp only[o6,List.length_map,List.length_zip]at this
    omega
   have P_:z=.tup [xs[j],ys[j]]:=by
    have q:(o6 xs ys)[j]? = some (.tup [xs[j],ys[j]]):=by
     simp[o6,List.getElem?_zip_eq_some,hj.1,hj.2]
    rw[q]at ez
    exact(Option.some.inj ez).symm
   subst P_
   obtain⟨x3,e3,v3⟩:=k2.get (List.getElem?_eq_getElem hj.1)
   obtain⟨x4,e4,v4⟩:=k4.get (List.getElem?_eq_getElem hj.2)
   refine⟨⟨vs,ws,x3,x4,k1,k3,e3,e4⟩,λ q H'' ⟨Tt,y1,y2,eq,hT,eH,hy⟩=>?_⟩
   obtain⟨f1,f2⟩:=hy vs ws k1 k3
   rw[e3]at f1;rw[e4]at f2
   cases f1;cases f2
   subst eq eH
   exact⟨je.d_ hT,je.new hT,jJ (hR.of av) (aJ.up (je.d_ hT) (.cons v3 (.one v4)))⟩
  ·rw[<-vm,<-sZ]
   simp only[o6,List.length_map,List.length_zip]
   omega
end
end Mm
namespace Mm
open PySem PySem.W PyProof.Rows
def aE {α:Type}(lt:Nat->Nat->Bool):KasT α->α
 | .ret a=>a
 | .ask i j k=>aE lt (k (lt i j))
theorem gK {α β:Type}(lt:Nat->Nat->Bool)(f:α->KasT β):∀ t:KasT α,aE lt (t.bind f)=aE lt (f (aE lt t))
 | .ret a=>rfl
 | .ask i j k=>gK lt f (k (lt i j))
section
variable {O:KeyOrd}{key:Nat->O.α}
def fc (key:Nat->O.α)(p:Array Nat)(i:Nat):O.α:=key (p.getD i 0)
abbrev bO (O:KeyOrd)(key:Nat->O.α):Nat->Nat->Bool:=λ i j=>O.blt (key i) (key j)
def uc (key:Nat->O.α)(p:Array Nat)(k:Nat):Prop:=∀ i j,i<=j->j < k->O.kle (fc key p i) (fc key p j)
def Gv (key:Nat->O.α)(p:Array Nat)(k:Nat):Prop:=∀ i j,i<=j->j < k->O.kle (fc key p j) (fc key p i)
theorem C7 (p:Array Nat):uc key p 1:=λ i j h1 h2=>by
 have:i=j:=by omega
 subst this;exact KeyOrd.kle_refl _
theorem zC {p:Array Nat}{n:Nat}(h1:1<=n)(h:uc key p n)(k:O.kle (fc key p (n - 1)) (fc key p n)):uc key p (n+1):=λ i j h2 h3=>by
 by_cases hj:j < n
 ·exact h i j h2 hj
 ·have e:j=n:=by omega
  subst e
  by_cases hi:i=j
  ·subst hi;exact KeyOrd.kle_refl _
  ·exact KeyOrd.kle_trans (h i (j - 1) (by omega) (by omega)) k
theorem mn {p:Array Nat}{n:Nat}(h1:1<=n)(h:Gv key p n)(k:O.kle (fc key p n) (fc key p (n - 1))):Gv key p (n+1):=λ i j h2 h3=>by
 by_cases hj:j < n
 ·exact h i j h2 hj
 ·have e:j=n:=by omega
  subst e
  by_cases hi:i=j
  ·subst hi;exact KeyOrd.kle_refl _
  ·exact KeyOrd.kle_trans k (h i (j - 1) (by omega) (by omega))
theorem mH {p q:Array Nat}{i j:Nat}(h:p[i]? = q[j]?):p.getD i 0=q.getD j 0:=by
 rw[Array.getD_eq_getD_getElem?,Array.getD_eq_getD_getElem?,h]
theorem j6 {p:Array Nat}{i j:Nat}(hj:j<=p.size)(k:Nat):fc key (kas_rev p i j) k=if i<=k/\k < j then fc key p (i+j - 1 - k) else fc key p k:=by
 unfold fc kas_rev
 have h:=getElem?_mirror_all (xs:=p) (i:=i) (j:=j) hj k
 split
 ·rename_i hk
  rw[if_pos hk]at h
  rw[mH h]
 ·rename_i hk
  rw[if_neg hk]at h
  rw[mH h]
theorem wg {p:Array Nat}:∀ (f n:Nat),1<=n->uc key p n->uc key p (aE (bO O key) (kas_asc p f n))/\n<=aE (bO O key) (kas_asc p f n)/\aE (bO O key) (kas_asc p f n)<=n+f/\
  (aE (bO O key) (kas_asc p f n) < n+f->O.klt (fc key p (aE (bO O key) (kas_asc p f n))) (fc key p (aE (bO O key) (kas_asc p f n) - 1)))
 | 0,n,h1,h=>⟨h,Nat.le_refl _,Nat.le_refl _,λ z=>absurd z (Nat.lt_irrefl _)⟩
 | f+1,n,h1,h=>by
  show uc key p (aE (bO O key) (if bO O key (p.getD n 0) (p.getD (n - 1) 0)=true then .ret n else kas_asc p f (n+1)))/\_
  by_cases c:bO O key (p.getD n 0) (p.getD (n - 1) 0)=true
  ·have e:aE (bO O key) (kas_asc p (f+1) n)=n:=by
    show aE (bO O key) (if bO O key (p.getD n 0) (p.getD (n - 1) 0)=true then .ret n else kas_asc p f (n+1))=n
    rw[if_pos c];rfl
   rw[e,if_pos c]
   exact⟨h,Nat.le_refl _,by omega,λ _=>c⟩
  ·have e:aE (bO O key) (kas_asc p (f+1) n)=aE (bO O key) (kas_asc p f (n+1)):=by
    show aE (bO O key) (if bO O key (p.getD n 0) (p.getD (n - 1) 0)=true then .ret n else kas_asc p f (n+1))=_
    rw[if_neg c]
   rw[e,if_neg c]
   obtain⟨a1,a2,a3,a4⟩:=wg f (n+1) (by omega) (zC h1 h (KeyOrd.kle_of_not_klt c))
   exact⟨a1,by omega,by omega,λ z=>a4 (by omega)⟩
def Alike (key:Nat->O.α)(p:Array Nat)(n q:Nat):Prop:=q+1<=n/\∀ i,n - (q+1)<=i->i < n->fc key p i=fc key p (n - 1)
theorem qW {p:Array Nat}{n q:Nat}(hn:n<=p.size)(h:Alike key p n q)(k:Nat):fc key (kas_rev p (n - (q+1)) n) k=fc key p k:=by
 rw[j6 hn]
 split
 ·rename_i hk
  rw[h.2 _ (by omega) (by omega),h.2 k hk.1 hk.2]
 ·rfl
theorem rg {p p':Array Nat}{n:Nat}(e:∀ k,fc key p' k=fc key p k)(h:Gv key p n):Gv key p' n:=λ i j h1 h2=>by rw[e,e];exact h i j h1 h2
theorem oW:∀ (f:Nat)(p:Array Nat)(n q:Nat),n+f<=p.size->1<=n->Gv key p n->Alike key p n q->
  let r:=aE (bO O key) (kas_desc f p n q)
  Gv key r.1 r.2.1/\Alike key r.1 r.2.1 r.2.2/\n<=r.2.1/\r.2.1<=n+f/\r.1.size=p.size/\r.1.Perm p
 | 0,p,n,q,hz,h1,h,a=>⟨h,a,Nat.le_refl _,Nat.le_refl _,rfl,Array.Perm.refl _⟩
 | f+1,p,n,q,hz,h1,h,a=>by
  by_cases c:bO O key (p.getD n 0) (p.getD (n - 1) 0)=true
  ·by_cases hq:q > 0
   ·have e:aE (bO O key) (kas_desc (f+1) p n q)=aE (bO O key) (kas_desc f (kas_rev p (n - (q+1)) n) (n+1) 0):=by
     show aE (bO O key) (if bO O key (p.getD n 0) (p.getD (n - 1) 0)=true then (if q > 0 then kas_desc f (kas_rev p (n - (q+1)) n) (n+1) 0 else kas_desc f p (n+1) 0) else _)=_
     rw[if_pos c,if_pos hq]
    have ke:∀ k,fc key (kas_rev p (n - (q+1)) n) k=fc key p k:=qW (by omega) a
    have sz:(kas_rev p (n - (q+1)) n).size=p.size:=mirror_size _ _ _ _
    have:=oW f (kas_rev p (n - (q+1)) n) (n+1) 0 (by rw[sz];omega) (by omega) (mn h1 (rg ke h) (by rw[ke,ke];exact KeyOrd.kle_of_klt c)) ⟨by omega,λ i h2 h3=>by
     have e9:i=n:=by omega
     rw[e9];rfl⟩
    rw[e]
    obtain⟨b1,b2,b3,b4,b5,b6⟩:=this
    exact⟨b1,b2,by omega,by omega,by rw[b5,sz],b6.trans (mirror_perm _ _ _ _)⟩
   ·have e:aE (bO O key) (kas_desc (f+1) p n q)=aE (bO O key) (kas_desc f p (n+1) 0):=by
     show aE (bO O key) (if bO O key (p.getD n 0) (p.getD (n - 1) 0)=true then (if q > 0 then kas_desc f (kas_rev p (n - (q+1)) n) (n+1) 0 else kas_desc f p (n+1) 0) else _)=_
     rw[if_pos c,if_neg hq]
    have:=oW f p (n+1) 0 (by omega) (by omega) (mn h1 h (KeyOrd.kle_of_klt c)) ⟨by omega,λ i h2 h3=>by
     have e9:i=n:=by omega
     rw[e9];rfl⟩
    rw[e]
    obtain⟨b1,b2,b3,b4,b5,b6⟩:=this
    exact⟨b1,b2,by omega,by omega,b5,b6⟩
  ·by_cases d:bO O key (p.getD (n - 1) 0) (p.getD n 0)=true
   ·have e:aE (bO O key) (kas_desc (f+1) p n q)=(p,n,q):=by
     show aE (bO O key) (if bO O key (p.getD n 0) (p.getD (n - 1) 0)=true then _ else .ask (p.getD (n - 1) 0) (p.getD n 0) λ d=>if d=true then .ret (p,n,q) else kas_desc f p (n+1) (q+1))=_
     rw[if_neg c]
     show aE (bO O key) (if bO O key (p.getD (n - 1) 0) (p.getD n 0)=true then .ret (p,n,q) else kas_desc f p (n+1) (q+1))=_
     rw[if_pos d];rfl
    rw[e]
    exact⟨h,a,Nat.le_refl _,(by show n<=n+(f+1);omega),rfl,Array.Perm.refl _⟩
   ·have e:aE (bO O key) (kas_desc (f+1) p n q)=aE (bO O key) (kas_desc f p (n+1) (q+1)):=by
     show aE (bO O key) (if bO O key (p.getD n 0) (p.getD (n - 1) 0)=true then _ else .ask (p.getD (n - 1) 0) (p.getD n 0) λ d=>if d=true then .ret (p,n,q) else kas_desc f p (n+1) (q+1))=_
     rw[if_neg c]
     show aE (bO O key) (if bO O key (p.getD (n - 1) 0) (p.getD n 0)=true then .ret (p,n,q) else kas_desc f p (n+1) (q+1))=_
     rw[if_neg d]
    have eq:fc key p n=fc key p (n - 1):=KeyOrd.kle_antisymm (KeyOrd.kle_of_not_klt d) (KeyOrd.kle_of_not_klt c)
    have:=oW f p (n+1) (q+1) (by omega) (by omega) (mn h1 h (by rw[eq];exact KeyOrd.kle_refl _)) ⟨by have:=a.1;omega,λ i h2 h3=>by
     by_cases hi:i=n
     ·subst hi;rfl
     ·show fc key p i=fc key p n
      rw[eq];exact a.2 i (by omega) (by omega)⟩
    rw[e]
    obtain⟨b1,b2,b3,b4,b5,b6⟩:=this
    exact⟨b1,b2,by omega,by omega,b5,b6⟩
theorem uj {p:Array Nat}{n nrem:Nat}(h1:1<=n)(hn:n<=nrem)(hz:nrem<=p.size)(h:Gv key p n) :
  let r:=aE (bO O key) (kas_tail3 n nrem p)
  uc key r.2 r.1/\1<=r.1/\r.1<=nrem/\r.2.size=p.size/\r.2.Perm p:=by
 have e:aE (bO O key) (kas_tail3 n nrem p)=(aE (bO O key) (kas_asc (kas_rev p 0 n) (nrem - n) n),kas_rev p 0 n):=by
  unfold kas_tail3
  rw[gK];rfl
 rw[e]
 have s0:uc key (kas_rev p 0 n) n:=λ i j h2 h3=>by
  rw[j6 (by omega),j6 (by omega),if_pos (by omega),if_pos (by omega)]
  exact h _ _ (by omega) (by omega)
 obtain⟨a1,a2,a3,_⟩:=wg (nrem - n) n h1 s0
 exact⟨a1,by omega,by omega,mirror_size _ _ _ _,mirror_perm _ _ _ _⟩
theorem n_ {p:Array Nat}{n nrem:Nat}(h1:1<=n)(hn:n+1<=nrem)(hz:nrem<=p.size)(h:Gv key p n)(hl:O.klt (fc key p n) (fc key p (n - 1))) :
  let r:=aE (bO O key) (kas_descPart n nrem p)
  uc key r.2 r.1/\1<=r.1/\r.1<=nrem/\r.2.size=p.size/\r.2.Perm p:=by
 have d:=oW (key:=key) (nrem - (n+1)) p (n+1) 0 (by omega) (by omega) (mn h1 h (KeyOrd.kle_of_klt hl)) ⟨by omega,λ i h2 h3=>by
     have e9:i=n:=by omega
     rw[e9];rfl⟩
 have e:aE (bO O key) (kas_descPart n nrem p)=aE (bO O key) (if (aE (bO O key) (kas_desc (nrem - (n+1)) p (n+1) 0)).2.2 > 0 then kas_tail3 (aE (bO O key) (kas_desc (nrem - (n+1)) p (n+1) 0)).2.1 nrem (kas_rev (aE (bO O key) (kas_desc (nrem - (n+1)) p (n+1) 0)).1 ((aE (bO O key) (kas_desc (nrem - (n+1)) p (n+1) 0)).2.1 - ((aE (bO O key) (kas_desc (nrem - (n+1)) p (n+1) 0)).2.2+1)) (aE (bO O key) (kas_desc (nrem - (n+1)) p (n+1) 0)).2.1) else kas_tail3 (aE (bO O key) (kas_desc (nrem - (n+1)) p (n+1) 0)).2.1 nrem (aE (bO O key) (kas_desc (nrem - (n+1)) p (n+1) 0)).1):=by
  unfold kas_descPart
  rw[gK]
 rw[e]
 generalize aE (bO O key) (kas_desc (nrem - (n+1)) p (n+1) 0)=r at *
 obtain⟨b1,b2,b3,b4,b5,b6⟩:=d
 by_cases hq:r.2.2 > 0
 ·rw[if_pos hq]
  have sz:(kas_rev r.1 (r.2.1 - (r.2.2+1)) r.2.1).size=r.1.size:=mirror_size _ _ _ _
  obtain⟨c1,c2,c3,c4,c5⟩:=uj (key:=key) (p:=kas_rev r.1 (r.2.1 - (r.2.2+1)) r.2.1) (n:=r.2.1) (nrem:=nrem) (by omega) (by omega) (by rw[sz,b5];exact hz) (rg (qW (by omega) b2) b1)
  exact⟨c1,c2,c3,by rw[c4,sz,b5],c5.trans ((mirror_perm _ _ _ _).trans b6)⟩
 ·rw[if_neg hq]
  obtain⟨c1,c2,c3,c4,c5⟩:=uj (key:=key) (p:=r.1) (n:=r.2.1) (nrem:=nrem) (by omega) (by omega) (by rw[b5];exact hz) b1
  exact⟨c1,c2,c3,by rw[c4,b5],c5.trans b6⟩
theorem B8 {p:Array Nat}{nrem:Nat}(h1:1<=nrem)(hz:nrem<=p.size) :
  let r:=aE (bO O key) (kas_count nrem p)
  uc key r.2 r.1/\1<=r.1/\r.1<=nrem/\r.2.size=p.size/\r.2.Perm p:=by
 obtain⟨a1,a2,a3,a4⟩:=wg (key:=key) (p:=p) (nrem - 1) 1 (Nat.le_refl _) (C7 p)
 have e:aE (bO O key) (kas_count nrem p)=aE (bO O key) (if (aE (bO O key) (kas_asc p (nrem - 1) 1) == nrem)=true then .ret (aE (bO O key) (kas_asc p (nrem - 1) 1),p) else if aE (bO O key) (kas_asc p (nrem - 1) 1) > 1 then .ask (p.getD 0 0) (p.getD (aE (bO O key) (kas_asc p (nrem - 1) 1) - 1) 0) λ c=>if c=true then .ret (aE (bO O key) (kas_asc p (nrem - 1) 1),p) else kas_descPart (aE (bO O key) (kas_asc p (nrem - 1) 1)) nrem (kas_rev p 0 (aE (bO O key) (kas_asc p (nrem - 1) 1)))
  else kas_descPart (aE (bO O key) (kas_asc p (nrem - 1) 1)) nrem p):=by
  unfold kas_count
  rw[gK]
 rw[e]
 generalize aE (bO O key) (kas_asc p (nrem - 1) 1)=n at *
 by_cases hn:(n == nrem)=true
 ·rw[if_pos hn]
  have:n=nrem:=by simpa using hn
  exact⟨a1,a2,(by show n<=nrem;omega),rfl,Array.Perm.refl _⟩
 ·rw[if_neg hn]
  have EY:n≠nrem:=by simpa using hn
  have hl:=a4 (by omega)
  by_cases h2:n > 1
  ·rw[if_pos h2]
   have e2:aE (bO O key) (.ask (p.getD 0 0) (p.getD (n - 1) 0) λ c=>if c=true then .ret (n,p) else kas_descPart n nrem (kas_rev p 0 n))=aE (bO O key) (if bO O key (p.getD 0 0) (p.getD (n - 1) 0)=true then .ret (n,p) else kas_descPart n nrem (kas_rev p 0 n)):=rfl
   rw[e2]
   by_cases c:bO O key (p.getD 0 0) (p.getD (n - 1) 0)=true
   ·rw[if_pos c]
    exact⟨a1,a2,(by show n<=nrem;omega),rfl,Array.Perm.refl _⟩
   ·rw[if_neg c]
    have all:∀ i,i < n->fc key p i=fc key p 0:=λ i hi=>by
     have q1:O.kle (fc key p 0) (fc key p i):=a1 0 i (Nat.zero_le _) hi
     have q2:O.kle (fc key p i) (fc key p (n - 1)):=a1 i (n - 1) (by omega) (by omega)
     have q3:O.kle (fc key p (n - 1)) (fc key p 0):=KeyOrd.kle_of_not_klt c
     exact KeyOrd.kle_antisymm (KeyOrd.kle_trans q2 q3) q1
    have sz:(kas_rev p 0 n).size=p.size:=mirror_size _ _ _ _
    have ke:∀ i,i < n->fc key (kas_rev p 0 n) i=fc key p 0:=λ i hi=>by
     rw[j6 (by omega),if_pos ⟨Nat.zero_le _,hi⟩];exact all _ (by omega)
    obtain⟨c1,c2,c3,c4,c5⟩:=n_ (key:=key) (p:=kas_rev p 0 n) (n:=n) (nrem:=nrem) (by omega) (by omega) (by rw[sz];exact hz)
     (λ i j h3 h4=>by rw[ke i (by omega),ke j h4];exact KeyOrd.kle_refl _)
     (by rw[j6 (by omega),if_neg (by omega),ke (n - 1) (by omega),<-all (n - 1) (by omega)];exact hl)
    exact⟨c1,c2,c3,by rw[c4,sz],c5.trans (mirror_perm _ _ _ _)⟩
  ·rw[if_neg h2]
   have So:n=1:=by omega
   subst So
   exact n_ (key:=key) (by omega) (by omega) hz (λ i j h3 h4=>by
    have:i=j:=by omega
    subst this;exact KeyOrd.kle_refl _) hl
theorem pD {p:Array Nat}{k:Nat}(hs:uc key p k):∀ (f l r:Nat),l<=r->r<=k->r - l<=f->(∀ i,i < l->O.kle (fc key p i) (fc key p k))->(∀ i,r<=i->i < k->O.klt (fc key p k) (fc key p i))->
  let m:=aE (bO O key) (kas_place p k f l r)
  m<=k/\(∀ i,i < m->O.kle (fc key p i) (fc key p k))/\∀ i,m<=i->i < k->O.klt (fc key p k) (fc key p i)
 | 0,l,r,h1,h2,h3,h4,h5=>⟨(by show l<=k;omega),h4,λ i h6 h7=>h5 i (by have h6:l<=i:=h6;omega) h7⟩
 | f+1,l,r,h1,h2,h3,h4,h5=>by
  by_cases hl:l ≥ r
  ·have e:aE (bO O key) (kas_place p k (f+1) l r)=l:=by
    show aE (bO O key) (if l ≥ r then .ret l else _)=l
    rw[if_pos hl];rfl
   rw[e]
   exact⟨by omega,h4,λ i h6 h7=>h5 i (by omega) h7⟩
  ·by_cases c:bO O key (p.getD k 0) (p.getD ((l+r) / 2) 0)=true
   ·have e:aE (bO O key) (kas_place p k (f+1) l r)=aE (bO O key) (kas_place p k f l ((l+r) / 2)):=by
     show aE (bO O key) (if l ≥ r then .ret l else .ask (p.getD k 0) (p.getD ((l+r) / 2) 0) λ c=>if c=true then kas_place p k f l ((l+r) / 2) else kas_place p k f ((l+r) / 2+1) r)=_
     rw[if_neg hl]
     show aE (bO O key) (if bO O key (p.getD k 0) (p.getD ((l+r) / 2) 0)=true then kas_place p k f l ((l+r) / 2) else kas_place p k f ((l+r) / 2+1) r)=_
     rw[if_pos c]
    rw[e]
    exact pD hs f l ((l+r) / 2) (by omega) (by omega) (by omega) h4 λ i h6 h7=>KeyOrd.klt_of_klt_of_kle (O:=O) c (hs _ i h6 h7)
   ·have e:aE (bO O key) (kas_place p k (f+1) l r)=aE (bO O key) (kas_place p k f ((l+r) / 2+1) r):=by
     show aE (bO O key) (if l ≥ r then .ret l else .ask (p.getD k 0) (p.getD ((l+r) / 2) 0) λ c=>if c=true then kas_place p k f l ((l+r) / 2) else kas_place p k f ((l+r) / 2+1) r)=_
     rw[if_neg hl]
     show aE (bO O key) (if bO O key (p.getD k 0) (p.getD ((l+r) / 2) 0)=true then kas_place p k f l ((l+r) / 2) else kas_place p k f ((l+r) / 2+1) r)=_
     rw[if_neg c]
    rw[e]
    exact pD hs f ((l+r) / 2+1) r (by omega) h2 (by omega) (λ i hi=>KeyOrd.kle_trans (hs i ((l+r) / 2) (by omega) (by omega)) (KeyOrd.kle_of_not_klt c)) h5
theorem EL {p:Array Nat}{k l:Nat}(hk:k < p.size)(hl:l<=k)(i:Nat):fc key (bubble p k (k - l)) i=if i=l then fc key p k else if l < i/\i<=k then fc key p (i - 1) else fc key p i:=by
 have h:=getElem?_bubble (xs:=p) hk (k - l) (by omega) i
 rw[show k - (k - l)=l by omega]at h
 by_cases hi:i=l
 ·rw[if_pos hi]at h ⊢;unfold fc;rw[mH h]
 ·rw[if_neg hi]at h ⊢
  by_cases h2:l < i/\i<=k
  ·rw[if_pos h2]at h ⊢;unfold fc;rw[mH h]
  ·rw[if_neg h2]at h ⊢;unfold fc;rw[mH h]
theorem Ck:∀ (f:Nat)(p:Array Nat)(k:Nat),k+f<=p.size->uc key p k->
  let r:=aE (bO O key) (kas_bin f p k)
  uc key r (k+f)/\r.size=p.size/\r.Perm p
 | 0,p,k,h1,h=>⟨h,rfl,Array.Perm.refl _⟩
 | f+1,p,k,h1,h=>by
  obtain⟨b1,b2,b3⟩:=pD (key:=key) h k 0 k (Nat.zero_le _) (Nat.le_refl _) (by omega) (λ i hi=>by omega) (λ i h2 h3=>by omega)
  have e:aE (bO O key) (kas_bin (f+1) p k)=aE (bO O key) (kas_bin f (bubble p k (k - aE (bO O key) (kas_place p k k 0 k))) (k+1)):=by
   show aE (bO O key) ((kas_place p k k 0 k).bind λ l=>kas_bin f (bubble p k (k - l)) (k+1))=_
   rw[gK]
  rw[e]
  generalize aE (bO O key) (kas_place p k k 0 k)=l at *
  have sz:(bubble p k (k - l)).size=p.size:=bubble_size _ _ _
  have kb:∀ i,fc key (bubble p k (k - l)) i=if i=l then fc key p k else if l < i/\i<=k then fc key p (i - 1) else fc key p i:=EL (by omega) b1
  have s1:uc key (bubble p k (k - l)) (k+1):=λ i j h2 h3=>by
   rw[kb,kb]
   by_cases hi:i=l
   ·rw[if_pos hi]
    by_cases hj:j=l
    ·rw[if_pos hj];exact KeyOrd.kle_refl _
    ·rw[if_neg hj,if_pos (by omega)]
     exact KeyOrd.kle_of_klt (b3 (j - 1) (by omega) (by omega))
   ·rw[if_neg hi]
    by_cases EZ:l < i/\i<=k
    ·rw[if_pos EZ,if_neg (by omega),if_pos (by omega)]
     exact h _ _ (by omega) (by omega)
    ·rw[if_neg EZ]
     by_cases hj:j=l
     ·rw[if_pos hj];exact b2 i (by omega)
     ·rw[if_neg hj]
      by_cases QW:l < j/\j<=k
      ·rw[if_pos QW];exact h _ _ (by omega) (by omega)
      ·rw[if_neg QW];exact h _ _ h2 (by omega)
  obtain⟨c1,c2,c3⟩:=Ck f (bubble p k (k - l)) (k+1) (by rw[sz];omega) s1
  exact⟨by rw[show k+(f+1)=k+1+f by omega];exact c1,by rw[c2,sz],c3.trans (bubble_perm _ _ _)⟩
theorem Dc {n:Nat}(h1:1<=n):let r:=aE (bO O key) (kas_sort n);uc key r n/\r.size=n/\r.Perm (List.toArray (List.range n)):=by
 have hz:(List.toArray (List.range n)).size=n:=by simp
 obtain⟨a1,a2,a3,a4,a5⟩:=B8 (key:=key) (p:=List.toArray (List.range n)) h1 (Nat.le_of_eq hz.symm)
 have e:aE (bO O key) (kas_sort n)=aE (bO O key) (if (aE (bO O key) (kas_count n (List.toArray (List.range n)))).1 < n then kas_bin (n - max (aE (bO O key) (kas_count n (List.toArray (List.range n)))).1 1) (aE (bO O key) (kas_count n (List.toArray (List.range n)))).2 (max (aE (bO O key) (kas_count n (List.toArray (List.range n)))).1 1) else .ret (aE (bO O key) (kas_count n (List.toArray (List.range n)))).2):=by
  unfold kas_sort
  rw[gK]
 rw[e]
 generalize aE (bO O key) (kas_count n (List.toArray (List.range n)))=r at *
 by_cases h2:r.1 < n
 ·rw[if_pos h2]
  have hm:max r.1 1=r.1:=by omega
  rw[hm]
  obtain⟨c1,c2,c3⟩:=Ck (key:=key) (n - r.1) r.2 r.1 (by rw[a4,hz];omega) a1
  exact⟨by rw[show n=r.1+(n - r.1) by omega];rw[show r.1+(n - r.1) - r.1=n - r.1 by omega];exact c1,by rw[c2,a4,hz],c3.trans a5⟩
 ·rw[if_neg h2]
  have:r.1=n:=by omega
  exact⟨(by show uc key r.2 n;rw[<-this];exact a1),(by show r.2.size=n;rw[a4,hz]),a5⟩
end
end Mm
namespace Mm
open PySem PySem.W PyProof.Rows
def mQ {α:Type}(n:Nat)(Po:α->Prop):KasT α->Prop
 | .ret a=>Po a
 | .ask i j k=>i < n/\j < n/\∀ b,mQ n Po (k b)
theorem mQ.bind {α β:Type}{n:Nat}{Po:α->Prop}{Pq:β->Prop}{f:α->KasT β}(hf:∀ a,Po a->mQ n Pq (f a)):∀ {t:KasT α},mQ n Po t->mQ n Pq (t.bind f)
 | .ret a,h=>hf a h
 | .ask i j k,h=>⟨h.1,h.2.1,λ b=>mQ.bind hf (h.2.2 b)⟩
def AllLt (n:Nat)(p:Array Nat):Prop:=∀ i,p.getD i 0 < n
theorem allLt_of {n:Nat}(h1:1<=n){p:Array Nat}(h:∀ x∈p.toList,x < n):AllLt n p:=λ i=>by
 rw[Array.getD_eq_getD_getElem?]
 cases e:p[i]? with
 | none=>exact h1
 | some x=>exact h x (by rw[Array.mem_toList_iff];exact Array.mem_of_getElem? e)
theorem AllLt.rev {n:Nat}{p:Array Nat}(h1:1<=n)(h:AllLt n p)(i j:Nat):AllLt n (kas_rev p i j):=allLt_of h1 λ x hx=>by
 have:x∈p.toList:=by
  have hp:=(mirror_perm p i j ((j - i) / 2))
  exact(Array.perm_iff_toList_perm.mp hp).mem_iff.mp hx
 obtain⟨k,hk,e⟩:=List.getElem_of_mem this
 have:=h k
 rw[Array.getD_eq_getD_getElem?]at this
 have e2:p[k]? = some x:=by rw[<-Array.getElem?_toList,List.getElem?_eq_getElem hk,e]
 rw[e2]at this
 exact this
theorem AllLt.Tc {n:Nat}{p:Array Nat}(h1:1<=n)(h:AllLt n p)(i j:Nat):AllLt n (bubble p i j):=allLt_of h1 λ x hx=>by
 have:x∈p.toList:=(Array.perm_iff_toList_perm.mp (bubble_perm p i j)).mem_iff.mp hx
 obtain⟨k,hk,e⟩:=List.getElem_of_mem this
 have:=h k
 rw[Array.getD_eq_getD_getElem?]at this
 have e2:p[k]? = some x:=by rw[<-Array.getElem?_toList,List.getElem?_eq_getElem hk,e]
 rw[e2]at this
 exact this
theorem wj {n:Nat}{p:Array Nat}(h:AllLt n p):∀ (f m:Nat),mQ n (λ _=>True) (kas_asc p f m)
 | 0,m=>trivial
 | f+1,m=>⟨h _,h _,λ b=>by
  show mQ n _ (if b=true then .ret m else kas_asc p f (m+1))
  split
  ·trivial
  ·exact wj h f (m+1)⟩
theorem oX {n:Nat}(h1:1<=n):∀ (f:Nat) {p:Array Nat}(m q:Nat),AllLt n p->mQ n (λ r=>AllLt n r.1) (kas_desc f p m q)
 | 0,p,m,q,h=>h
 | f+1,p,m,q,h=>⟨h _,h _,λ b=>by
  show mQ n _ (if b=true then (if q > 0 then kas_desc f (kas_rev p (m - (q+1)) m) (m+1) 0 else kas_desc f p (m+1) 0) else .ask (p.getD (m - 1) 0) (p.getD m 0) λ d=>if d=true then .ret (p,m,q) else kas_desc f p (m+1) (q+1))
  split
  ·split
   ·exact oX h1 f _ _ (h.rev h1 _ _)
   ·exact oX h1 f _ _ h
  ·refine⟨h _,h _,λ d=>?_⟩
   show mQ n _ (if d=true then .ret (p,m,q) else kas_desc f p (m+1) (q+1))
   split
   ·exact h
   ·exact oX h1 f _ _ h⟩
theorem uk {n:Nat}(h1:1<=n){p:Array Nat}(h:AllLt n p)(m nrem:Nat):mQ n (λ r=>AllLt n r.2) (kas_tail3 m nrem p):=by
 have a:=wj (h.rev h1 0 m) (nrem - m) m
 unfold kas_tail3
 refine mQ.bind (Pq:=λ r:Nat × Array Nat=>AllLt n r.2) (λ q _=>?_) a
 exact h.rev h1 0 m
theorem oa {n:Nat}(h1:1<=n){p:Array Nat}(h:AllLt n p)(m nrem:Nat):mQ n (λ r=>AllLt n r.2) (kas_descPart m nrem p):=
 mQ.bind (λ r hr=>by
  show mQ n _ (if r.2.2 > 0 then _ else _)
  split
  ·exact uk h1 (AllLt.rev h1 hr _ _) _ _
  ·exact uk h1 hr _ _) (oX h1 _ _ _ h)
theorem B9 {n:Nat}(h1:1<=n){p:Array Nat}(h:AllLt n p)(nrem:Nat):mQ n (λ r=>AllLt n r.2) (kas_count nrem p):=
 mQ.bind (λ m _=>by
  show mQ n _ (if (m == nrem)=true then .ret (m,p) else if m > 1 then .ask (p.getD 0 0) (p.getD (m - 1) 0) λ c=>if c=true then .ret (m,p) else kas_descPart m nrem (kas_rev p 0 m) else kas_descPart m nrem p)
  split
  ·exact h
  ·split
   ·refine⟨h _,h _,λ c=>?_⟩
    show mQ n _ (if c=true then .ret (m,p) else kas_descPart m nrem (kas_rev p 0 m))
    split
    ·exact h
    ·exact oa h1 (h.rev h1 _ _) _ _
   ·exact oa h1 h _ _) (wj h _ _)
theorem pE {n:Nat}{p:Array Nat}(h:AllLt n p)(k:Nat):∀ (f l r:Nat),mQ n (λ _=>True) (kas_place p k f l r)
 | 0,l,r=>trivial
 | f+1,l,r=>by
  show mQ n _ (if l ≥ r then .ret l else .ask (p.getD k 0) (p.getD ((l+r) / 2) 0) λ c=>if c=true then kas_place p k f l ((l+r) / 2) else kas_place p k f ((l+r) / 2+1) r)
  split
  ·trivial
  ·refine⟨h _,h _,λ c=>?_⟩
   show mQ n _ (if c=true then kas_place p k f l ((l+r) / 2) else kas_place p k f ((l+r) / 2+1) r)
   split
   ·exact pE h k f _ _
   ·exact pE h k f _ _
theorem Cm {n:Nat}(h1:1<=n):∀ (f:Nat) {p:Array Nat}(k:Nat),AllLt n p->mQ n (λ _=>True) (kas_bin f p k)
 | 0,p,k,h=>trivial
 | f+1,p,k,h=>mQ.bind (λ l _=>Cm h1 f _ (h.Tc h1 _ _)) (pE h k k 0 k)
theorem Dd {n:Nat}(h1:1<=n):mQ n (λ _=>True) (kas_sort n):=
 mQ.bind (λ r hr=>by
  show mQ n _ (if r.1 < n then _ else _)
  split
  ·exact Cm h1 _ _ hr
  ·trivial) (B9 h1 (allLt_of h1 λ x hx=>by simpa using hx) n)
theorem FI {α:Type}{cmp:Nat->Nat->(Bool->Shared->Prop)->Shared->Prop}{lt:Nat->Nat->Bool}{n:Nat}{s:Shared}(hc:∀ i j C,i < n->j < n->C (lt i j) s->cmp i j C s) {Q:α->Shared->Prop}:∀ {t:KasT α},mQ n (λ _=>True) t->Q (aE lt t) s->t.kasWp cmp Q s
 | .ret a,_,h=>h
 | .ask i j k,hi,h=>hc i j _ hi.1 hi.2.1 (FI hc (hi.2.2 _) h)
section
variable {prog:Program}{w:World}{A:Around}{E:Value->Shared->Prop}{s:Shared}{a:Addr}{vs:List Value}
theorem Dh {O:KeyOrd}{key:Nat->O.α}{κ:SortKind}{n:Nat}{P:PySem.Fin->Shared->Prop}(ho:s.heap.get? a=some (seqObj "list" vs.toArray n)) (h2:2<=vs.length)(F_:vs.length < 64)
  (hk:∀ h':Heap,(∀ b o,b≠a->s.heap.get? b=some o->h'.get? b=some o)->∀ Q:SortKind->Shared->Prop,Q κ { s with heap:=h' }->wpAny (model prog w) A (keyKind' vs.toArray) Q (λ _ _=>False) { s with heap:=h' })
  (ha:∀ h':Heap,(∀ b o,b≠a->s.heap.get? b=some o->h'.get? b=some o)->∀ i j C,i < vs.length->j < vs.length->C (O.blt (key i) (key j)) { s with heap:=h' }->wpAny (model prog w) A (keyLt' κ (vs.getD i Value.none) (vs.getD j Value.none)) C (λ _ _=>False) { s with heap:=h' })
  (h:∀ p:Array Nat,uc key p vs.length->p.size=vs.length->p.Perm (List.toArray (List.range vs.length))->P (.done (.ret .none)) { s with heap:=sortedHeap s.heap a vs (List.toArray (p.toList.map λ i=>vs.getD i Value.none)) }) :
  wpAny (model prog w) A (Builtin.«list.sort» ⟨[.ref a],[]⟩) P E s:=by
 have Sr:a < s.heap.objs.size:=Heap.lt_size ho
 obtain⟨e1,ay⟩:∃ e1,(s.heap.update a (Obj.mapSeq λ _=>(#[]:Array Value))).get? a=some (seqObj "list" #[] e1):=⟨_,get?_update_seq ho λ _=>#[]⟩
 rw[list_sort_plain]
 refine wpAny_bind (listItems_at ho rfl ?_)
 refine wpAny_bind (listUpdate_at ho rfl ?_ (by rw[List.size_toArray,sizeLine_eq];omega) (Nat.zero_le _))
 refine wpAny_bind (seqEpoch_at ay rfl ?_)
 refine wpAny_bind (wpAny_newTuple ?_ (by show vs.length<=_;rw[sizeLine_eq];omega))
 refine wpAny_bind (wpAny_newList ?_ (Nat.zero_le _))
 refine wpAny_holding ?_
 show wpAny (model prog w) A _ P E { s with heap:=((s.heap.update a (Obj.mapSeq λ _=>(#[]:Array Value))).push (seqObj "tuple" vs.toArray 0)).push (seqObj "list" #[] 0) }
 dsimp only
 have CF:¬ vs.toArray.size < 2:=by rw[List.size_toArray];omega
 rw[if_neg CF,if_neg CF]
 have keep:∀ b o,b≠a->s.heap.get? b=some o->(((s.heap.update a (Obj.mapSeq λ _=>(#[]:Array Value))).push (seqObj "tuple" vs.toArray 0)).push (seqObj "list" #[] 0)).get? b=some o:=λ b o hb e=>
  Heap.get?_push_of_some _ (Heap.get?_push_of_some _ ((Heap.get?_update_other _ _ (Ne.symm hb)).trans e))
 refine wpAny_bind (wpAny_mono (hk _ keep _ ?_) (λ κ s0 hk=>hk) λ _ _ x=>x.elim)
 have ask:=FI (cmp:=kas_ask prog w A κ vs) (lt:=bO O key) (s:={ s with heap:=((s.heap.update a (Obj.mapSeq λ _=>(#[]:Array Value))).push (seqObj "tuple" vs.toArray 0)).push (seqObj "list" #[] 0) })
  (Q:=λ p vi=>p=aE (bO O key) (kas_sort vs.length)/\vi={ s with heap:=((s.heap.update a (Obj.mapSeq λ _=>(#[]:Array Value))).push (seqObj "tuple" vs.toArray 0)).push (seqObj "list" #[] 0) }) (λ i j C hi hj hC=>ha _ keep i j C hi hj hC) (Dd (by omega)) ⟨rfl,rfl⟩
 refine wpAny_bind (wpAny_mono (kat_run (Q:=λ om s'=>∃ p:Array Nat,p.size=vs.length/\arrOf om=p.map (kas_item (vs.toArray.zip vs.toArray))/\failedOf om=none/\p=aE (bO O key) (kas_sort vs.length)/\s'={ s with heap:=((s.heap.update a (Obj.mapSeq λ _=>(#[]:Array Value))).push (seqObj "tuple" vs.toArray 0)).push (seqObj "list" #[] 0) })
  rfl h2 F_ (λ p' om s' a1 a2 a3 a4=>⟨p',a1,a2,a3,a4.1,a4.2⟩) ask) ?_ λ _ _ e=>e)
 rintro⟨⟨⟩,om⟩ s' ⟨p,hp,SF,hf,rfl,rfl⟩
 dsimp only
 have IU:=kat_snds rfl SF
 have hsz:(List.toArray ((aE (bO O key) (kas_sort vs.length)).toList.map λ i=>vs.getD i Value.none)).size=vs.length:=by rw[List.size_toArray,List.length_map,Array.length_toList,hp]
 rw[IU]
 have na:(((s.heap.update a (Obj.mapSeq λ _=>(#[]:Array Value))).push (seqObj "tuple" vs.toArray 0)).push (seqObj "list" #[] 0)).get? a=some (seqObj "list" #[] e1):=Heap.get?_push_of_some _ (Heap.get?_push_of_some _ ay)
 refine wpAny_bind (seqEpoch_at na rfl ?_)
 refine wpAny_bind (listUpdate_at na rfl ?_ (Nat.zero_le _) (Nat.le_trans (Nat.le_of_eq hsz) (by rw[sizeLine_eq];omega)))
 rw[hf]
 simp only[bne_self_eq_false,Bool.false_eq_true,if_false]
 obtain⟨q1,q2,q3⟩:=Dc (key:=key) (n:=vs.length) (by omega)
 exact wpAny_pure (h _ q1 q2 q3)
end
end Mm
namespace L2
open PySem PySem.Spec PyProof.Rows
theorem bQ.mW {P:Program}{w:World}{H:Hp}{h:Heap}{a:Addr}{o:HO}(x:bQ P w H h a o):∃ u,h.get? a=some u:=by
 cases o with
 | lst xs=>obtain⟨_,_,_,_,e⟩:=x;exact⟨_,e⟩
 | tup xs=>obtain⟨_,_,_,⟨_,e,_⟩⟩:=x;exact⟨_,e⟩
 | dK kvs=>obtain⟨_,_,_,_,o,_,_,e,_⟩:=x;exact⟨_,e⟩
 | dT kvs=>obtain⟨_,_,_,_,o,_,_,e,_⟩:=x;exact⟨_,e⟩
 | set S n=>obtain⟨o,_,_,_,e,_⟩:=x;exact⟨_,e⟩
 | ins C dx fs=>obtain⟨_,_,_,e,_⟩:=x;exact⟨_,e⟩
 | own y=>obtain⟨_,e⟩:=x;exact⟨_,e⟩
 | xd fs=>obtain⟨_,⟨_,_,_,e,_⟩,_⟩:=x;exact⟨_,e⟩
 | Km lo hi=>obtain⟨_,_,_,e⟩:=x;exact⟨_,e⟩
 | k9 ob u=>obtain⟨e,_⟩:=x;exact⟨_,e⟩
 | oM ps=>exact⟨_,show h.get? a=some _ from x⟩
 | met f y=>exact⟨_,show h.get? a=some _ from x⟩
 | ext φ=>obtain⟨_,⟨_,e⟩,_⟩:=x;exact⟨_,e⟩
theorem Inv.grown {X:Cx}{pins:List (Addr × Obj)}{σ:St}{H H':Hp}{s:Shared}{h':Heap}{t':Nat}(I:Inv X pins σ H s)(k:∀ b u,s.heap.get? b=some u->h'.get? b=some u)(e:∀ b u,s.heap.get? b=some u->H' b=H b)
  (new:∀ b o,s.heap.get? b=none->H' b=some o->bQ X.prog X.w H' h' b o):Inv X pins σ H' { s with heap:=h',toks:=t' }:=by
 have old:∀ b o,H b=some o->H' b=some o:=λ b o z=>by
  obtain⟨u,hu⟩:=(I.aQ b o z).mW
  rw[e b u hu];exact z
 refine I.un ⟨λ b u q _ _ _=>k b u q,λ b u q _ _ _=>⟨u.slots,k b u q⟩,λ b u q n _=>by rw[e b u q];exact n,λ b u q _=>⟨u,k b u q⟩,λ b xs q=>old b _ q,λ b u xs q=>old b _ q,λ b ps q=>⟨#[],by rw[old b _ q];simp⟩⟩ λ b o z=>?_
 cases hb:s.heap.get? b with
 | some u=>
  rw[e b u hb]at z
  exact(I.aQ b o z).lj (λ c u _ q=>k c u q) (λ c q=>old c _ q) λ c xs q=>old c _ q
 | none=>exact new b o hb z
def uJ (a b:Str):Bool:=!decide (b.cps.toList < a.cps.toList)
def yt (a:Str):List Str->List Str
 | []=>[a]
 | b :: r=>if uJ a b=true then a :: b :: r else b :: yt a r
def au:List Str->List Str
 | []=>[]
 | a :: r=>yt a (au r)
theorem nA (a:Str):∀ l,(yt a l).Perm (a :: l)
 | []=>.refl _
 | b :: r=>by
  unfold yt
  split
  ·exact .refl _
  ·exact((nA a r).cons b).trans (.swap a b r)
theorem gU:∀ l,(au l).Perm l
 | []=>.refl _
 | a :: r=>(nA a (au r)).trans ((gU r).cons a)
abbrev oS:KeyOrd:=strKind.toKeyOrd
abbrev Fu (a:Str):oS.α:=a.cps.toList
theorem mB {a b:Str}:uJ a b=true ↔ oS.kle (Fu a) (Fu b):=by
 unfold uJ KeyOrd.kle
 show(!decide (b.cps.toList < a.cps.toList))=true ↔ decide (b.cps.toList < a.cps.toList)=false
 simp
theorem yl (a b:Str)(h:uJ a b≠true):uJ b a=true:=by
 rw[mB]
 refine KeyOrd.kle_of_not_klt λ z=>?_
 exact h (mB.mpr (KeyOrd.kle_of_klt z))
theorem rD {a b c:Str}(h:uJ a b=true)(k:uJ b c=true):uJ a c=true:=by
 rw[mB]at *
 exact KeyOrd.kle_trans h k
theorem Bi {a b:Str}(h:uJ a b=true)(k:uJ b a=true):a=b:=by
 rw[mB]at *
 have e:a.cps.toList=b.cps.toList:=KeyOrd.kle_antisymm h k
 cases a with|mk x=>cases b with|mk y=>exact congrArg Str.mk (Array.toList_inj.mp e)
theorem n4 (a:Str):∀ {l:List Str},l.Pairwise (λ x y=>uJ x y=true)->(yt a l).Pairwise (λ x y=>uJ x y=true)
 | [],_=>List.pairwise_singleton _ _
 | b :: r,h=>by
  unfold yt
  split
  ·rename_i hb
   refine List.pairwise_cons.mpr ⟨λ x hx=>?_,h⟩
   rcases List.mem_cons.mp hx with rfl|hx
   ·exact hb
   ·exact rD hb ((List.pairwise_cons.mp h).1 x hx)
  ·rename_i hb
   refine List.pairwise_cons.mpr ⟨λ x hx=>?_,n4 a (List.pairwise_cons.mp h).2⟩
   rcases List.mem_cons.mp ((nA a r).mem_iff.mp hx) with rfl|hx
   ·exact yl _ _ hb
   ·exact(List.pairwise_cons.mp h).1 x hx
theorem l6:∀ l,(au l).Pairwise (λ x y=>uJ x y=true)
 | []=>List.Pairwise.nil
 | a :: r=>n4 a (l6 r)
theorem nR {α:Type}{le:α->α->Bool}(FA:∀ a b,le a b=true->le b a=true->a=b):∀ {l q:List α},l.Perm q->l.Pairwise (λ x y=>le x y=true)->q.Pairwise (λ x y=>le x y=true)->l=q
 | [],q,p,_,_=>(List.nil_perm.mp p).symm
 | a :: r,q,p,h,k=>by
  cases q with
  | nil=>exact absurd (p.length_eq) (by simp)
  | cons b t=>
   have CH:a=b:=by
    rcases List.mem_cons.mp (p.mem_iff.mp List.mem_cons_self) with e|ha
    ·exact e
    ·rcases List.mem_cons.mp (p.mem_iff.mpr List.mem_cons_self) with e|hb
     ·exact e.symm
     ·exact FA _ _ ((List.pairwise_cons.mp h).1 b hb) ((List.pairwise_cons.mp k).1 a ha)
   subst CH
   rw[nR FA p.cons_inv (List.pairwise_cons.mp h).2 (List.pairwise_cons.mp k).2]
theorem jf {l q:List Str}(p:l.Perm q)(h:l.Pairwise (λ x y=>uJ x y=true)):l=au q:=
 nR (λ _ _=>Bi) (p.trans (gU q).symm) h (l6 q)
theorem gG:∀ {l:List Str},sortedS l=true->l.Pairwise (λ x y=>uJ x y=true)
 | [],_=>.nil
 | [a],_=>List.pairwise_singleton _ _
 | a :: b :: r,h=>by
  have h:(!ltCps b.cps.toList a.cps.toList && risingS b r)=true:=h
  rw[Bool.and_eq_true]at h
  have ih:(b :: r).Pairwise (λ x y=>uJ x y=true):=gG h.2
  have CH:uJ a b=true:=by
   have:=h.1
   rw[ltCps_eq]at this
   exact this
  refine List.pairwise_cons.mpr ⟨λ x hx=>?_,ih⟩
  rcases List.mem_cons.mp hx with rfl|hx
  ·exact CH
  ·exact rD CH ((List.pairwise_cons.mp ih).1 x hx)
theorem pq:∀ {l:List Value}{ks:List Str},l.length=ks.length->(∀ j (hj:j < ks.length),∃ t,l[j]? = some (.str ks[j] t))->StrsAre l ks
 | [],[],_,_=>.nil
 | [],_ :: _,h,_=>by simp at h
 | _ :: _,[],h,_=>by simp at h
 | v :: r,k :: q,h,g=>by
  obtain⟨t,e⟩:=g 0 (by simp)
  simp at e
  subst e
  exact .cons k t (pq (by simpa using h) λ j hj=>by
   obtain⟨t,e⟩:=g (j+1) (by simpa using hj)
   exact⟨t,by simpa using e⟩)
theorem w8 {kvs:List (Key × V)}{vs:List (Key × Value)}(rel:KV kvs vs){ks:List Str}(hk:kvs.map (·.1)=ks.map Sum.inr) {j:Nat}{k:Key}{x:Value}(e:vs[j]? = some (k,x)) (hj:j < ks.length):k=Sum.inr ks[j]:=by
 have h1:(vs.map (·.1))=kvs.map (·.1):=by
  clear hk e
  unfold KV at rel
  induction rel with
  | nil=>rfl
  | cons h _ ih=>rw[List.map_cons,List.map_cons,ih,h.1]
 have h2:(vs.map (·.1))[j]? = some k:=by rw[List.getElem?_map,e];rfl
 rw[h1,hk,List.getElem?_map,List.getElem?_eq_getElem hj]at h2
 exact(Option.some.inj h2).symm
def G5:List V->Hp->VK->Prop:=λ xs H Q=>∃ (d:Addr)(kvs:List (Key × V)) (ks:List Str),xs=[.ref d]/\H d=some (.dK kvs)/\kvs.map (·.1)=ks.map Sum.inr/\ks.length < 64/\∀ l,H l=none->Q (.ref l) (upd H l (.lst ((au ks).map V.str)))
theorem wc {X:Cx}(hc:X.calm=true):dJ X (.builtin "sorted") G5:=by
 rintro pins s σ H xs us Q I rv ⟨d,kvs,ks,rfl,hH,hk,F_,q⟩
 obtain⟨u,rfl,ru⟩:=rv.one
 cases (show u=Value.ref d from ru)
 obtain⟨z,hd,vs,rel,dd⟩:=uX I.aQ hH
 obtain⟨ep,PZ⟩:=dd.dictAt
 have Bu:vs.length=ks.length:=by
  have h1:=congrArg List.length hk
  have h2:=rel.length
  rw[List.length_map,List.length_map]at h1
  omega
 have hh:=I.ok.hd hc
 refine PySem.Calls.call_function_entry kind_sorted plain_sorted entry_sorted (args_sorted1 _) ?_
 unfold Builtin.«sorted»
 refine wpAny_bind (m:=checkCount "sorted" 1 1 _) (wpAny_pure ?_)
 refine wpAny_bind (PySem.W.kdu_collect (A:=X.A.in1) (PySem.W.kdl_dict (knd:=bw X.prog X.w) (kvs:=vs) (ep:=ep) hd) hh PZ (by rw[<-rel.length];exact z) λ h' tk acc JJ L8=>?_)
 have hl:acc.toList.length=ks.length:=by rw[Array.length_toList,L8.1,Bu]
 have hS:StrsAre acc.toList ks:=pq hl λ j hj=>by
  have IY:j < acc.size:=by rw[<-Array.length_toList,hl];exact hj
  obtain⟨k,x,e1,e2⟩:=L8.2 j acc[j] (by rw[Array.getElem?_eq_getElem IY])
  have ek:k=Sum.inr ks[j]:=w8 rel hk e1 hj
  subst ek
  obtain⟨t,et⟩:=Value.isStrOf_shape (show Value.isStrOf ks[j] acc[j]=true from e2)
  exact⟨t,by rw[Array.getElem?_toList,Array.getElem?_eq_getElem IY,et]⟩
 refine wpAny_bind (wpAny_newList ?_ (by rw[hl];exact Nat.le_of_lt (bZ (by omega))))
 have hoL:(h'.push (seqObj "list" acc.toList.toArray 0)).get? h'.objs.size=some (seqObj "list" acc.toList.toArray 0):=Heap.get?_push_size _ rfl
 refine wpAny_bind (wpAny_holding (wpAny_call_entry slot_list_sort ⟨_,hoL,rfl⟩ entry_list_sort (list_sort_treeK strKind_oneLt hoL hS.keysOf (λ v₁ v₂ rest e=>keyKind_strs (by rw[<-e];exact hS)) (by rw[hl];exact F_) λ om a1 a2=>⟨_,rfl,?_⟩) (args_list_sort _)))
 obtain⟨CA,h1,h2,h3⟩:=sorted_out_str hS a1 a2
 have e1:CA=au ks:=jf h2 (gG h3)
 subst e1
 have hold:∀ b u,s.heap.get? b=some u->b≠h'.objs.size:=λ b u e=>Nat.ne_of_lt (Heap.lt_size (JJ b u e))
 have SK:H h'.objs.size=none:=by
  cases q0:H h'.objs.size with
  | none=>rfl
  | some o=>obtain⟨u,hu⟩:=(I.aQ _ o q0).mW;exact absurd rfl (hold _ u hu)
 obtain⟨ec,PU⟩:=sortedHeap_at hoL (out:=(arrOf om).map (·.2))
 refine wpAny_pure ⟨_,rfl,.ref h'.objs.size,upd H h'.objs.size (.lst ((au ks).map V.str)),?_,rfl,q _ SK⟩
 refine I.grown (λ b u e=>?_) (λ b u e=>ah (hold b u e)) λ b o e z=>?_
 ·rw[sortedHeap_old (hold b u e) (by rw[Heap.size_push];exact Nat.lt_succ_of_lt (Heap.lt_size (JJ b u e)))]
  exact Heap.get?_push_of_some _ (JJ b u e)
 ·by_cases hb:b=h'.objs.size
  ·subst hb
   rw[av]at z
   cases z
   refine⟨by rw[List.length_map,h2.length_eq];exact Nat.le_of_lt (bZ (by omega)),_,ec,fY h1,?_⟩
   rw[PU]
  ·rw[ah hb]at z
   obtain⟨u,hu⟩:=(I.aQ b o z).mW
   rw[e]at hu;cases hu
end L2
namespace Mm
open PySem PySem.W PyProof.Rows
section
variable {prog:Program}{w:World}{A:Around}{E:Value->Shared->Prop}{s:Shared}{a:Addr}{vs:List Value}
theorem zF {O:KeyOrd}{key:Nat->O.α}{κ:SortKind}{n:Nat}{P:PySem.Fin->Shared->Prop}(ho:s.heap.get? a=some (seqObj "list" vs.toArray n)) (F_:vs.length < 64)
  (hk:∀ h':Heap,2<=vs.length->(∀ b o,b≠a->s.heap.get? b=some o->h'.get? b=some o)->∀ Q:SortKind->Shared->Prop,Q κ { s with heap:=h' }->wpAny (model prog w) A (keyKind' vs.toArray) Q (λ _ _=>False) { s with heap:=h' })
  (ha:∀ h':Heap,(∀ b o,b≠a->s.heap.get? b=some o->h'.get? b=some o)->∀ i j C,i < vs.length->j < vs.length->C (O.blt (key i) (key j)) { s with heap:=h' }->wpAny (model prog w) A (keyLt' κ (vs.getD i Value.none) (vs.getD j Value.none)) C (λ _ _=>False) { s with heap:=h' })
  (h:∀ p:Array Nat,uc key p vs.length->p.size=vs.length->p.Perm (List.toArray (List.range vs.length))->P (.done (.ret .none)) { s with heap:=sortedHeap s.heap a vs (List.toArray (p.toList.map λ i=>vs.getD i Value.none)) }) :
  wpAny (model prog w) A (Builtin.«list.sort» ⟨[.ref a],[]⟩) P E s:=by
 by_cases h2:2<=vs.length
 ·exact Dh ho h2 F_ (λ h' k=>hk h' h2 k) ha h
 ·have Sr:a < s.heap.objs.size:=Heap.lt_size ho
  obtain⟨e1,ay⟩:∃ e1,(s.heap.update a (Obj.mapSeq λ _=>(#[]:Array Value))).get? a=some (seqObj "list" #[] e1):=⟨_,get?_update_seq ho λ _=>#[]⟩
  rw[list_sort_plain]
  refine wpAny_bind (listItems_at ho rfl ?_)
  refine wpAny_bind (listUpdate_at ho rfl ?_ (by rw[List.size_toArray,sizeLine_eq];omega) (Nat.zero_le _))
  refine wpAny_bind (seqEpoch_at ay rfl ?_)
  refine wpAny_bind (wpAny_newTuple ?_ (by show vs.length<=_;rw[sizeLine_eq];omega))
  refine wpAny_bind (wpAny_newList ?_ (Nat.zero_le _))
  refine wpAny_holding ?_
  show wpAny (model prog w) A _ P E { s with heap:=((s.heap.update a (Obj.mapSeq λ _=>(#[]:Array Value))).push (seqObj "tuple" vs.toArray 0)).push (seqObj "list" #[] 0) }
  dsimp only
  have CF:vs.toArray.size < 2:=by rw[List.size_toArray];omega
  rw[if_pos CF,if_pos CF]
  refine wpAny_bind (wpAny_pure ?_)
  rw[StateT.run_pure]
  refine wpAny_bind (wpAny_pure ?_)
  dsimp only
  have na:(((s.heap.update a (Obj.mapSeq λ _=>(#[]:Array Value))).push (seqObj "tuple" vs.toArray 0)).push (seqObj "list" #[] 0)).get? a=some (seqObj "list" #[] e1):=Heap.get?_push_of_some _ (Heap.get?_push_of_some _ ay)
  refine wpAny_bind (seqEpoch_at na rfl ?_)
  refine wpAny_bind (listUpdate_at na rfl ?_ (Nat.zero_le _) (by rw[Array.size_map];show(pairsOf vs).size<=_;rw[pairsOf_size,sizeLine_eq];omega))
  simp only[bne_self_eq_false,Bool.false_eq_true,if_false]
  have q:=h (List.toArray (List.range vs.length)) (λ i j h3 h4=>by
   have:i=j:=by omega
   subst this;exact KeyOrd.kle_refl _) (by simp) (Array.Perm.refl _)
  have e:List.toArray ((List.toArray (List.range vs.length)).toList.map λ i=>vs.getD i Value.none)=(vs.toArray.zip vs.toArray).map (·.2):=by
   apply Array.toList_inj.mp
   apply List.ext_getElem
   ·simp
   ·intro i h5 h6
    have hi:i < vs.length:=by simpa using h5
    simp[hi]
  rw[e]at q
  exact wpAny_pure q
end
end Mm
namespace L2
open PySem PySem.Spec PyProof.Rows
def G7:V->List V->Hp->VK->Prop:=λ x vs H Q=>∃ d kvs,x=.ref d/\vs=[]/\H d=some (.dK kvs)/\∀ v,H v=none->Q (.ref v) (upd H v (.ext λ h=>h.IsItemsView v d))
theorem AN {X:Cx}:yT X "dict.items" G7:=by
 rintro pins s σ H x xs v us Q I rx rv ⟨d,kvs,rfl,rfl,hH,q⟩
 cases rx
 cases rv
 obtain⟨z,hd,vs,rel,dd⟩:=uX I.aQ hH
 refine call_meetsIn PySem.F.slot_dict_items dd.typeIs PySem.F.entry_dict_items (PySem.F.args_dict_items_1 _) (meets_dict_items (bw X.prog X.w) d hd) ⟨⟨vs,dd⟩,?_⟩
 refine⟨.ref s.heap.objs.size,_,I.laid (a:=s.heap.objs.size) (o:=.ext λ h=>h.IsItemsView s.heap.objs.size d) (t':=s.toks) (λ _ _ q=>Heap.get?_push_of_some _ q) (Nat.le_refl _) ⟨⟨_,Heap.get?_push_size _ rfl,rfl,rfl⟩,⟨_,Heap.get?_push_size _ rfl⟩,λ h1 h2 ⟨o,e,r⟩ k=>⟨o,k o e,r⟩⟩,rfl,q _ (I.aQ.fresh (Nat.le_refl _))⟩
def Dp:List V->Hp->VK->Prop:=λ xs H Q=>∃ (v d:Addr)(kvs:List (Key × V)) (ks:List Str),xs=[.ref v]/\H v=some (.ext λ h=>h.IsItemsView v d)/\H d=some (.dK kvs)/\kvs.map (·.1)=ks.map Sum.inr/\ks.length < 64/\
 ∀ l H' ws,H l=none->(∀ b o,H b=some o->H' b=some o)->(∀ b,H' b=none->H b=none)->H' l=some (.lst ws)->ws.length=ks.length->
  (∀ (j:Nat) (k:Str),(au ks)[j]? = some k->∃ a x,ws[j]? = some (.ref a)/\gR kvs (Sum.inr k)=some x/\H a=none/\H' a=some (.tup [.str k,x]))->Q (.ref l) H'
theorem Bq {as:List Addr}(nd:as.Nodup){j:Nat}(hj:j < as.length):as.idxOf as[j]=j:=by
 have h1:=List.idxOf_lt_length_of_mem (List.getElem_mem hj)
 exact(List.getElem_inj nd).mp (List.getElem_idxOf h1)
theorem Lx {kvs:List (Key × V)}{vs:List (Key × Value)}(rel:KV kvs vs){j:Nat}{k:Key}{x:Value}(e:vs[j]? = some (k,x)):∃ y,kvs[j]? = some (k,y)/\RelV y x:=by
 unfold KV at rel
 induction rel generalizing j with
 | nil=>simp at e
 | cons h _ ih=>
  cases j with
  | zero=>
   simp at e
   subst e
   exact⟨_,(by rw[List.getElem?_cons_zero];exact congrArg some (Prod.ext h.1 rfl)),h.2⟩
  | succ j=>exact ih (by simpa using e)
theorem CZ {kvs:List (Key × V)}{ks:List Str}(hk:kvs.map (·.1)=ks.map Sum.inr) (nd:ks.Nodup){j:Nat}{k:Str}{y:V}(e:kvs[j]? = some (Sum.inr k,y)):gR kvs (Sum.inr k)=some y:=by
 induction kvs generalizing ks j with
 | nil=>simp at e
 | cons p r ih=>
  cases ks with
  | nil=>simp at hk
  | cons q t=>
   rw[List.map_cons,List.map_cons,List.cons.injEq]at hk
   cases j with
   | zero=>
    simp at e
    subst e
    exact jK rfl
   | succ j=>
    have e:r[j]? = some (Sum.inr k,y):=by simpa using e
    rw[jL]
    ·exact ih hk.2 (List.nodup_cons.mp nd).2 e
    ·intro z
     have:k∈t:=by
      have h1:(r.map (·.1))[j]? = some (Sum.inr k):=by rw[List.getElem?_map,e];rfl
      rw[hk.2]at h1
      have:=List.mem_of_getElem? h1
      obtain⟨k',h2,h3⟩:=List.mem_map.mp this
      cases h3;exact h2
     rw[hk.1]at z
     have:q=k:=Sum.inr.inj z
     subst this
     exact(List.nodup_cons.mp nd).1 (by assumption)
theorem EI {kvs:List (Key × V)}{vs:List (Key × Value)}(rel:KV kvs vs):vs.map (·.1)=kvs.map (·.1):=by
 unfold KV at rel
 induction rel with
 | nil=>rfl
 | cons h _ ih=>rw[List.map_cons,List.map_cons,ih,h.1]
theorem uU {prog:Program}{w:World}{A:Around}{E:Value->Shared->Prop}{s:Shared}{v:Value}{Q:Bool->Shared->Prop}(h:Q true s):wpAny (model prog w) A (eqBool v v) Q E s:=by
 unfold eqBool
 refine wpAny_holding ?_
 rw[if_pos (beq_self_eq_true v)]
 exact wpAny_bind (wpAny_rule (wpAny_pure h))
theorem pW {h:Heap}:∀ {as:List Addr},(∀ (j:Nat) (a:Addr),as[j]? = some a->∃ (k:Str) (t:Tok) (x:Value),h.get? a=some { cls:=.type "tuple",data:=.seq #[.str k t,x] })->∃ fs,PySem.W.KatTups h (as.map Value.ref) fs/\(∀ v∈fs,∃ (x:Str) (t:Tok),v=.str x t)/\fs.length=as.length
 | [],_=>⟨[],PySem.W.KatTups.nil,(λ v z=>nomatch z),rfl⟩
 | a :: r,g=>by
  obtain⟨k,t,x,e⟩:=g 0 a rfl
  obtain⟨fs,k1,k2,k3⟩:=pW (as:=r) λ j b hb=>g (j+1) b (by simpa using hb)
  refine⟨.str k t :: fs,PySem.W.KatTups.cons e rfl rfl rfl k1,λ v hv=>?_,by simp[k3]⟩
  rcases List.mem_cons.mp hv with rfl|hv
  ·exact⟨k,t,rfl⟩
  ·exact k2 v hv
theorem u_ {X:Cx}(hc:X.calm=true):dJ X (.builtin "sorted") Dp:=by
 rintro pins s σ H xs us Q I rv ⟨v,d,kvs,ks,rfl,hv,hH,hk,F_,q⟩
 obtain⟨u,rfl,ru⟩:=rv.one
 cases (show u=Value.ref v from ru)
 obtain⟨z,hd,vs,rel,dd⟩:=uX I.aQ hH
 obtain⟨ep,PZ⟩:=dd.dictAt
 have LK:s.heap.IsItemsView v d:=(I.aQ v _ hv).1
 have JK:kvs.length=ks.length:=by have h1:=congrArg List.length hk;simpa using h1
 have Bu:vs.length=ks.length:=by have h2:=rel.length;omega
 have nd:ks.Nodup:=by
  obtain⟨_,_,_,_,_,_,_,_,QM⟩:=dd
  have e:vs.map (·.1)=kvs.map (·.1):=EI rel
  rw[e,hk]at QM
  exact(List.pairwise_map.mp QM).imp λ h z=>h (congrArg Sum.inr z)
 have hh:=I.ok.hd hc
 refine PySem.Calls.call_function_entry kind_sorted plain_sorted entry_sorted (args_sorted1 _) ?_
 unfold Builtin.«sorted»
 refine wpAny_bind (m:=checkCount "sorted" 1 1 _) (wpAny_pure ?_)
 refine wpAny_bind (PySem.W.kdx_collect (A:=X.A.in1) (knd:=bw X.prog X.w) (kvs:=vs) (ep:=ep) hh LK PZ (by rw[<-rel.length];exact z) λ h1 tk as JJ JO hG=>?_)
 have hl:(as.map Value.ref).length=ks.length:=by rw[List.length_map,JO,Bu]
 have ndA:as.Nodup:=hG.rise.imp λ h=>Nat.ne_of_lt h
 have tup:∀ j (hj:j < ks.length),∃ (a:Addr) (t:Tok) (x:Value) (y:V),as[j]? = some a/\kvs[j]? = some (Sum.inr ks[j],y)/\RelV y x/\h1.get? a=some { cls:=.type "tuple",data:=.seq #[.str ks[j] t,x] }:=λ j hj=>by
  have IY:j < as.length:=by rw[JO,Bu];exact hj
  obtain⟨key,k,x,e1,e2,e3⟩:=hG.pairs j as[j] (List.getElem?_eq_getElem IY)
  have ek:k=Sum.inr ks[j]:=w8 rel hk e1 hj
  subst ek
  obtain⟨t,et⟩:=Value.isStrOf_shape (show Value.isStrOf ks[j] key=true from e2)
  subst et
  obtain⟨y,e4,e5⟩:=Lx rel e1
  exact⟨as[j],t,x,y,List.getElem?_eq_getElem IY,e4,e5,e3⟩
 refine wpAny_bind (wpAny_newList ?_ (by rw[hl];exact Nat.le_of_lt (bZ (by omega))))
 have hoL:(h1.push (seqObj "list" (as.map Value.ref).toArray 0)).get? h1.objs.size=some (seqObj "list" (as.map Value.ref).toArray 0):=Heap.get?_push_size _ rfl
 have tupP:∀ h':Heap,(∀ b o,b≠h1.objs.size->(h1.push (seqObj "list" (as.map Value.ref).toArray 0)).get? b=some o->h'.get? b=some o)->∀ b o,h1.get? b=some o->h'.get? b=some o:=λ h' kk b o e=>kk b o (Nat.ne_of_lt (Heap.lt_size e)) (Heap.get?_push_of_some _ e)
 refine wpAny_bind (wpAny_holding (wpAny_call_entry slot_list_sort ⟨_,hoL,rfl⟩ entry_list_sort (Mm.zF (O:=oS) (key:=λ i=>Fu (ks.getD i ⟨#[]⟩)) (κ:=tuples' true) hoL (by rw[hl];exact F_) ?_ ?_ λ p p1 p2 p3=>⟨_,rfl,?_⟩) (args_list_sort _)))
 ·intro h' h2 kk Q' hq
  obtain⟨fs,k1,k2,k3⟩:=pW (h:=h') (as:=as) λ j a ha=>by
   have hj:j < ks.length:=by rw[<-Bu,<-JO];exact(List.getElem?_eq_some_iff.mp ha).1
   obtain⟨b,t,x,y,e1,_,_,e2⟩:=tup j hj
   rw[ha]at e1;cases e1
   exact⟨_,t,x,tupP h' kk _ _ e2⟩
  refine PySem.W.kat_kind (T:=.type "str") k1 (by rw[k3,JO,Bu];rw[hl]at h2;omega) (λ v hv=>?_) (by decide) ?_
  ·obtain⟨x,t,rfl⟩:=k2 v hv
   exact PySem.W.Looks.of_pure rfl
  ·have e:(Value.type "str" != Value.type "tuple")=true:=by decide
   rw[e];exact hq
 ·intro h' kk i j C hi hj hC
  rw[hl]at hi hj
  obtain⟨a,t,x,y,e1,e2,e3,e4⟩:=tup i hi
  obtain⟨b,t',x',y',f1,f2,f3,f4⟩:=tup j hj
  have g1:(as.map Value.ref).getD i Value.none=.ref a:=by rw[List.getD_eq_getElem?_getD,List.getElem?_map,e1];rfl
  have g2:(as.map Value.ref).getD j Value.none=.ref b:=by rw[List.getD_eq_getElem?_getD,List.getElem?_map,f1];rfl
  rw[g1,g2]
  have c1:Fu (ks.getD i ⟨#[]⟩)=Fu ks[i]:=by rw[List.getD_eq_getElem?_getD,List.getElem?_eq_getElem hi];rfl
  have c2:Fu (ks.getD j ⟨#[]⟩)=Fu ks[j]:=by rw[List.getD_eq_getElem?_getD,List.getElem?_eq_getElem hj];rfl
  have hC:C (oS.blt (Fu ks[i]) (Fu ks[j])) { s with heap:=h',toks:=tk }:=by rw[<-c1,<-c2];exact hC
  refine PySem.W.kat_lt (tupP h' kk _ _ e4) rfl (tupP h' kk _ _ f4) rfl ?_
  refine PySem.W.kat_cons (eqBool_str ?_)
  by_cases qk:i=j
  ·subst qk
   rw[e1]at f1;cases f1
   rw[e4]at f4
   injection f4 with f4
   injection f4 with _ _ f4 _
   injection f4 with f4 _
   have f4:=congrArg Array.toList f4
   simp at f4
   obtain⟨_,rfl⟩:=f4
   rw[beq_self_eq_true]
   refine PySem.W.kat_yes (PySem.W.kat_cons (uU (PySem.W.kat_yes (PySem.W.kat_nil ?_))))
   rw[oS.irrefl]at hC
   exact hC
  ·have EY:(ks[i] == ks[j])=false:=by
    rw[beq_eq_false_iff_ne]
    exact λ z=>qk ((List.getElem_inj nd).mp z)
   rw[EY]
   exact PySem.W.kat_no (strKind_oneLt _ _ _ _ _ _ _ _ _ rfl rfl hC)
 ·-- Th new heap
  let ts:List HO:=(List.range ks.length).map λ j=>.tup [.str (ks.getD j ⟨#[]⟩),((kvs[j]?).map (·.2)).getD .az]
  let ws:List V:=p.toList.map λ i=>.ref (as.getD i 0)
  let H':Hp:=λ b=>if b=h1.objs.size then some (.lst ws) else if b∈as then ts[as.idxOf b]? else H b
  have hold:∀ b u,s.heap.get? b=some u->b≠h1.objs.size:=λ b u e=>Nat.ne_of_lt (Heap.lt_size (JJ b u e))
  have P0:∀ b∈as,b < h1.objs.size:=λ b hb=>hG.there hb
  have yw:∀ b u,s.heap.get? b=some u->b∉as:=λ b u e hb=>absurd (Heap.lt_size e) (Nat.not_lt.mpr (Nat.le_of_lt (hG.above b hb)))
  have FZ:∀ b,(∀ u,s.heap.get? b≠some u)->H b=none:=λ b hb=>by
   cases q0:H b with
   | none=>rfl
   | some o=>obtain⟨u,hu⟩:=(I.aQ _ o q0).mW;exact absurd hu (hb u)
  have e0:H h1.objs.size=none:=FZ _ λ u e=>hold _ u e rfl
  have S4:∀ b∈as,H b=none:=λ b hb=>FZ _ λ u e=>yw _ u e hb
  have eH:∀ b o,H b=some o->H' b=some o:=λ b o e=>by
   obtain⟨u,hu⟩:=(I.aQ _ o e).mW
   show(if b=h1.objs.size then some (.lst ws) else if b∈as then ts[as.idxOf b]? else H b)=_
   rw[if_neg (hold b u hu),if_neg (yw b u hu)];exact e
  have S3:∀ j (hj:j < ks.length),∃ a y,as[j]? = some a/\kvs[j]? = some (Sum.inr ks[j],y)/\H' a=some (.tup [.str ks[j],y]):=λ j hj=>by
   obtain⟨a,t,x,y,g1,g2,g3,g4⟩:=tup j hj
   obtain⟨IY,ga⟩:=List.getElem?_eq_some_iff.mp g1
   refine⟨a,y,g1,g2,?_⟩
   have ma:a∈as:=List.mem_of_getElem? g1
   show(if a=h1.objs.size then some (.lst ws) else if a∈as then ts[as.idxOf a]? else H a)=_
   rw[if_neg (Nat.ne_of_lt (P0 a ma)),if_pos ma]
   have:as.idxOf a=j:=by rw[<-ga];exact Bq ndA IY
   rw[this]
   simp[ts,hj,g2]
  have pr:p.toList.Perm (List.range ks.length):=by
   have:=Array.perm_iff_toList_perm.mp p3
   rw[hl]at this
   simpa using this
  have pl:p.toList.length=ks.length:=by rw[pr.length_eq,List.length_range]
  have QD:∀ i∈p.toList,i < ks.length:=λ i hi=>by simpa using pr.mem_iff.mp hi
  have RD:p.toList.map (λ i=>ks.getD i ⟨#[]⟩)=au ks:=by
   refine jf ?_ ?_
   ·have h5:=pr.map (λ i=>ks.getD i ⟨#[]⟩)
    have e5:(List.range ks.length).map (λ i=>ks.getD i ⟨#[]⟩)=ks:=by
     apply List.ext_getElem
     ·simp
     ·intro i h6 h7
      simp[h7]
    rw[e5]at h5
    exact h5
   ·rw[List.pairwise_map,List.pairwise_iff_getElem]
    intro i j hi hj qk
    rw[mB]
    have:=p1 i j (Nat.le_of_lt qk) (by rw[hl,<-pl];exact hj)
    unfold Mm.fc at this
    have gi:p.getD i 0=p.toList[i]:=by rw[Array.getD_eq_getD_getElem?,<-Array.getElem?_toList,List.getElem?_eq_getElem hi];rfl
    have gj:p.getD j 0=p.toList[j]:=by rw[Array.getD_eq_getD_getElem?,<-Array.getElem?_toList,List.getElem?_eq_getElem hj];rfl
    rw[gi,gj]at this
    exact this
  refine wpAny_pure ⟨_,rfl,.ref h1.objs.size,H',?_,rfl,?_⟩
  ·obtain⟨ec,PU⟩:=sortedHeap_at hoL (out:=List.toArray (p.toList.map λ i=>(as.map Value.ref).getD i Value.none))
   have keep:∀ b u,h1.get? b=some u->(sortedHeap (h1.push (seqObj "list" (as.map Value.ref).toArray 0)) h1.objs.size (as.map Value.ref) (List.toArray (p.toList.map λ i=>(as.map Value.ref).getD i Value.none))).get? b=some u:=λ b u e=>by
    rw[sortedHeap_old (Nat.ne_of_lt (Heap.lt_size e)) (by rw[Heap.size_push];exact Nat.lt_succ_of_lt (Heap.lt_size e))]
    exact Heap.get?_push_of_some _ e
   refine I.grown (λ b u e=>keep b u (JJ b u e)) (λ b u e=>?_) λ b o e z=>?_
   ·show(if b=h1.objs.size then some (.lst ws) else if b∈as then ts[as.idxOf b]? else H b)=_
    rw[if_neg (hold b u e),if_neg (yw b u e)]
   ·have z:(if b=h1.objs.size then some (.lst ws) else if b∈as then ts[as.idxOf b]? else H b)=some o:=z
    by_cases hb:b=h1.objs.size
    ·rw[if_pos hb]at z
     cases z
     subst hb
     refine⟨by show(p.toList.map λ i=>V.ref (as.getD i 0)).length<=_;rw[List.length_map,pl];exact Nat.le_of_lt (bZ (by omega)),p.toList.map λ i=>(as.map Value.ref).getD i Value.none,ec,?_,?_⟩
     ·have:∀ (l:List Nat),(∀ i∈l,i < ks.length)->Vals (l.map λ i=>V.ref (as.getD i 0)) (l.map λ i=>(as.map Value.ref).getD i Value.none):=by
       intro l
       induction l with
       | nil=>intro _;exact .nil
       | cons i r ih=>
        intro hi
        refine .cons ?_ (ih λ x hx=>hi x (List.mem_cons_of_mem _ hx))
        have h8:i < as.length:=by rw[JO,Bu];exact hi i List.mem_cons_self
        show(as.map Value.ref).getD i Value.none=Value.ref (as.getD i 0)
        simp[h8]
      exact this _ QD
     ·rw[PU]
    ·rw[if_neg hb]at z
     by_cases PY:b∈as
     ·rw[if_pos PY]at z
      obtain⟨j,hj,gj⟩:=List.getElem_of_mem PY
      have F7:j < ks.length:=by rw[<-Bu,<-JO];exact hj
      obtain⟨a,t,x,y,g1,g2,g3,g4⟩:=tup j F7
      rw[List.getElem?_eq_getElem hj,gj]at g1
      cases g1
      rw[show as.idxOf b=j by rw[<-gj];exact Bq ndA hj]at z
      have:o=.tup [.str ks[j],y]:=by
       have:ts[j]? = some (.tup [.str ks[j],y]):=by simp[ts,F7,g2]
       rw[this]at z
       exact(Option.some.inj z).symm
      subst this
      exact⟨by show 2<=sizeLine;decide,[.str ks[j] t,x],.cons ⟨t,rfl⟩ (.cons g3 .nil),_,keep _ _ g4,rfl,0,rfl⟩
     ·rw[if_neg PY]at z
      obtain⟨u,hu⟩:=(I.aQ _ o z).mW
      rw[e]at hu;cases hu
  ·refine q h1.objs.size H' ws e0 eH (λ b hb=>?_) (by show(if h1.objs.size=h1.objs.size then some (HO.lst ws) else _)=_;rw[if_pos rfl]) (by show(p.toList.map _).length=_;rw[List.length_map,pl]) λ j k F7=>?_
   ·cases q0:H b with
    | none=>rfl
    | some o=>rw[eH b o q0]at hb;cases hb
   ·rw[<-RD,List.getElem?_map]at F7
    cases NN:p.toList[j]? with
    | none=>rw[NN]at F7;cases F7
    | some i=>
     rw[NN]at F7
     have hi:i < ks.length:=QD i (List.mem_of_getElem? NN)
     have F0:ks[i]=k:=by
      have:ks.getD i ⟨#[]⟩=k:=Option.some.inj F7
      rw[<-this];simp[hi]
     obtain⟨a,y,g1,g2,g3⟩:=S3 i hi
     rw[F0]at g2 g3
     refine⟨a,y,?_,CZ hk nd g2,S4 a (List.mem_of_getElem? g1),g3⟩
     show(p.toList.map λ i=>V.ref (as.getD i 0))[j]? = _
     rw[List.getElem?_map,NN]
     show some (V.ref (as.getD i 0))=_
     rw[List.getD_eq_getElem?_getD,g1];rfl
end L2
namespace Mm
open PySem L2
def gD:List (Key × AV)->Option (List Str)
 | []=>some []
 | (.inr x,_) :: r=>(gD r).map (x :: ·)
 | _ :: _=>none
theorem jM:∀ {kvs:List (Key × AV)}{ks:List Str},gD kvs=some ks->kvs.map (·.1)=ks.map Sum.inr
 | [],_,h=>by cases h;rfl
 | (.inr x,v) :: r,ks,h=>by
  have h:(gD r).map (x :: ·)=some ks:=h
  cases e:gD r with
  | none=>rw[e]at h;cases h
  | some q=>rw[e]at h;cases h;rw[List.map_cons,jM e];rfl
 | (.inl x,v) :: r,ks,h=>by cases h
def lO (m:Ev):dY:=λ env s=>(m env s).bind λ v s1=>match v with
 | .ref i=>need (gC s1 i) λ kvs=>need (gD kvs) λ ks=>if ks.length < 64 then .ok ((au ks).map .str) s1 else .bad
 | _=>.bad
def nF (m:Ev):dY:=λ env s=>(m env s).bind λ v s1=>match v with
 | .ref i=>need (gC s1 i) λ kvs=>need (gD kvs) λ ks=>if ks.length < 64 then .ok ((au ks).map λ k=>.tup [.str k,(aP kvs (.inr k)).getD .az]) s1 else .bad
 | _=>.bad
section
variable {T:Tx}{XE:gI}{X:Cx}{pos:Pos}
theorem A1 {e:Expr}{p:Pos}{m:Ev}(hm:X.mg "sorted"=none)(h:PE X e (tE T XE m)) (LY:X.calm=true:=by rfl)(hg:Gl X "sorted":=by rfl)(he:starEach [e] X.env=(false,eval e X.env) :: starEach [] X.env:=by rfl) (fe:(backTo pos (starEach [] X.env)).any (·.1)=false:=by rfl) :
  PE X (.Call (.Name "sorted" p) [e] [] pos) (tL T XE (lO m)):=
 PE.imp (eM (wc LY) hg hm PyProof.Rows.boot_sorted (cf h fC he) (by decide) (by decide) he fe) λ σ H Q ⟨ρ,env,s,hs,he,ho⟩=>step hs he ho λ v s1 ρ1 H1 x _ u1 aL cb aI ay=>by
  cases v with
  | ref i=>
   obtain⟨kvs,e1,ay⟩:=ay.ao
   obtain⟨ks,e2,ay⟩:=ay.ao
   obtain⟨hl,ay⟩:=ay.a7
   obtain⟨a,qs,rfl,ea,h1,q1,q2⟩:=aL.qE (fP e1) aI
   exact⟨a,qs,ks,rfl,h1,by rw[<-q1];exact jM e2,hl,λ l hl=>ay.lst aL hl (aJ.map (λ _=>gQ) _)⟩
  | _=>exact ay.elim
theorem A0 {e:Expr}{p ap cp:Pos}{m:Ev}(hm:X.mg "sorted"=none)(h:PE X e (tE T XE m)) (LY:X.calm=true:=by rfl)(hg:Gl X "sorted":=by rfl)
  (i4:attributeBase e "items" X.env (eval e X.env)=eval e X.env:=by rfl) (i3:(ap.endLine == cp.line)=true:=by rfl)
  (he:starEach [.Call (.Attribute e "items" ap) [] [] cp] X.env=(false,eval (.Call (.Attribute e "items" ap) [] [] cp) X.env) :: starEach [] X.env:=by rfl) (fe:(backTo pos (starEach [] X.env)).any (·.1)=false:=by rfl) :
  PE X (.Call (.Name "sorted" p) [.Call (.Attribute e "items" ap) [] [] cp] [] pos) (tL T XE (nF m)):=
 PE.imp (eM (u_ LY) hg hm PyProof.Rows.boot_sorted (cf (Ap PySem.F.plainAttrs_dict PySem.F.slot_dict_items PySem.F.type_dict_items AN h i4 i3) fC he) (by decide) (by decide) he fe) λ σ H Q ⟨ρ,env,s,hs,he,ho⟩=>
  step hs he ho λ v s1 ρ1 H1 x _ u1 aL cb aI ay=>by
   cases v with
   | ref i=>
    obtain⟨kvs,e1,ay⟩:=ay.ao
    obtain⟨ks,e2,ay⟩:=ay.ao
    obtain⟨hl,ay⟩:=ay.a7
    obtain⟨a,qs,rfl,ea,h1,q1,q2⟩:=aL.qE (fP e1) aI
    refine⟨.inr (.inr (.inl ⟨rfl,.inl ⟨qs,h1⟩⟩)),a,qs,rfl,rfl,h1,λ v hv=>?_⟩
    refine⟨v,a,qs,ks,rfl,av,by rw[ah (aF h1 hv)];exact h1,by rw[<-q1];exact jM e2,hl,λ l H' ws QV k1 k2 k3 k4 k5=>?_⟩
    have old:∀ b o,H1 b=some o->H' b=some o:=λ b o e=>k1 b o (by rw[ah (aF e hv)];exact e)
    have LR:H1 l=none:=by
     by_cases Bu:l=v
     ·rw[Bu];exact hv
     ·rw[ah Bu]at QV;exact QV
    have up:Up ρ1 H1 ρ1 H':=⟨⟨List.prefix_rfl,λ b xs e=>old b _ e,λ b o u e=>old b _ e⟩,λ b o e n=>⟨old b o e,n⟩,λ b e=>by
     have:=k2 b e
     by_cases Q3:b=v
     ·rw[Q3];exact hv
     ·rw[ah Q3]at this;exact this⟩
    have fA:SR T ρ1 s1 H':=aL.up up.toGr λ b hb=>by
     obtain⟨u,hu⟩:=aL.in hb
     rw[hu];exact old b u hu
    refine ay ρ1 H' (.ref l) up fA ⟨l,ws,rfl,LR,aL.out LR,k3,?_⟩
    have len:(au ks).length=ws.length:=by rw[(gU ks).length_eq,k4]
    have all:∀ (Kv:List Str) (CU:List V),Kv.length=CU.length->(∀ (j:Nat) (k:Str),Kv[j]? = some k->∃ a' x,CU[j]? = some (.ref a')/\gR qs (Sum.inr k)=some x/\H' a'=some (.tup [.str k,x]))->aJ T ρ1 H' (Kv.map λ k=>AV.tup [.str k,(aP kvs (.inr k)).getD .az]) CU:=by
     intro Kv
     induction Kv with
     | nil=>intro CU sZ _;cases CU with|nil=>exact .nil|cons _ _=>simp at sZ
     | cons k r ih=>
      intro CU sZ g
      cases CU with
      | nil=>simp at sZ
      | cons w CU=>
       obtain⟨a',x,f1,f2,f3⟩:=g 0 k rfl
       simp at f1
       subst f1
       refine .cons (jJ (hR.of f3) (.cons gQ (.one ?_))) (ih CU (by simpa using sZ) λ j k' hj=>g (j+1) k' (by simpa using hj))
       cases ev:aP kvs (.inr k) with
       | none=>rw[(dQ (.inr k) q1 q2).2 ev]at f2;cases f2
       | some v'=>
        obtain⟨x',ex,kx⟩:=(dQ (.inr k) q1 q2).1 v' ev
        rw[f2]at ex;cases ex
        exact VR.up up kx
    exact all _ _ len λ j k hj=>by
     obtain⟨a',x,f1,f2,_,f3⟩:=k5 j k hj
     exact⟨a',x,f1,f2,f3⟩
   | _=>exact ay.elim
end
end Mm
namespace Ro
open PySem L2 Mm
def Q9 (env:En):Nat:=match (env[(1:Nat)]?:Option (Option AV)) with
 | some (some (.int i))=>i.natAbs+1
 | _=>0
def Gf (env:En):Nat:=match (env[(4:Nat)]?:Option (Option AV)) with
 | some (some (.int i))=>i.natAbs+1
 | _=>0
def kE:AV:=.tup [.int 0,.int 1]
noncomputable def jv:Ms:=
 (aC (cw 1 (aR (CJ wH (EH (FV (mv 0) oN (oS (mc (.int 63))))))))
 (aC (fS (Md (cB (ae dM (mv 1) (aR (dc ag))))) (cw 1 (aR (dc (aa (mc (.int 7)) ag)))) bR)
 (bh (jB [((mc (.str "cells")),(mv 1)),((mc (.str "turn")),(mc (.int 0)))]))))
noncomputable def dC:List AV->S->R AV:=eB 2 jv
noncomputable def kq:Ms:=
 (aC (cw 2 (ae cZ (ae bc (mv 0) (mc (.str "turn"))) (mc (.int 1))))
 (aC (jO (mv 0) (mc (.str "turn")) (mv 2))
 (aC (cw 3 (ae hW (mv 2) (ua hX (aa (ae bc (mv 0) (mc (.str "cells"))) ag))))
 (aC (cw 4 (ae bj (ae bc (mv 0) (mc (.str "cells"))) (mv 3)))
 (aC (fS (cB (ae Az (mv 4) (ae wQ (mc (.int 10)) (mc (.int 18))))) (aC (yb (ua jS (aa (mv 4) (aa (mv 1) ag))) (gT 2 (aT (j_ (ae bc (mv 0) (mc (.str "cells"))) (mv 3)) (aT (gN 6) ie))))
 (bh (mv 6))) bR)
 (aC (cw 5 (ae hW (ae jQ (ae cZ (ae cZ (ae hW (mv 4) (mc (.int 2147483629))) (ae jQ (ae jQ (mv 2) (mv 2)) (mc (.int 7919)))) (mc (.int 11))) (mc (.int 48271))) (mc (.int 2147483647))))
 (aC (cw 5 (ae hW (ae jQ (mv 5) (mv 5)) (mc (.int 2147483587))))
 (bh (ae hW (ae mZ (ae hW (ae jQ (ae cZ (mv 5) (ae jQ (mv 2) (mc (.int 104729)))) (mc (.int 39373))) (mc (.int 2147483629))) (mc (.int 64))) (mv 1))))))))))
noncomputable def aO:List AV->S->R AV:=eB 7 kq
noncomputable def dw (rf:List AV->S->R AV):Ms:=
 (aC (fS (cB (ae jR (mv 1) (mc .az))) (bh (ae jR (mv 0) (mc .az))) bR)
 (aC (fS (Cf (cT (cA (dH "list") (mv 1))) (cT (cA (dH "tuple") (mv 1)))) (aC (fS (cB (ae ou (cA (dH "list") (mv 0)) (cA (dH "list") (mv 1)))) (bh (mc (.bl false))) bR)
 (aC (fS (Cf (cB (ae ou (cA (dH "tuple") (mv 0)) (cA (dH "tuple") (mv 1)))) (cB (ae ou (ua hX (aa (mv 0) ag)) (ua hX (aa (mv 1) ag))))) (bh (mc (.bl false))) bR)
 (bh (CJ zQ (cj [("_law_one",none),("_law_other",none)] (zD (mv 0) (mv 1)) (gT 2 (aT (gN 0) (aT (gN 1) ie))) js (aD 2 rf (aa (mv 0) (aa (mv 1) ag)))))))) bR)
 (aC (fS (cT (cA (dH "str") (mv 1))) (bh (sS (cA (dH "str") (mv 0)) (ae dM (mv 0) (mv 1)))) bR)
 (bh (sS (cA (dH "int") (mv 0)) (sS (cA qZ (cA (dH "bool") (mv 0))) (ae dM (mv 0) (mv 1))))))))
noncomputable def ar:Nat->List AV->S->R AV
 | 0=>λ _ _=>.bad
 | n+1=>eB 2 (dw (ar n))
noncomputable def iN:Ms:=
 (aC (oo 3 4 (aa (ua rb (aa (mv 0) ag)) (aa (ua rb (aa (mv 1) ag)) ag)))
 (aC (Dk (λ env _=>Gf env) (cB (ae vJ (mv 4) (mc (.int 0)))) (oo 3 4 (aa (mv 4) (aa (ae hW (mv 3) (mv 4)) ag))))
 (aC (cw 2 (JF (cB (ae Ax (mv 1) (mc (.int 0)))) (cA wR (mc (.int 1))) (mc (.int 1))))
 (bh (jj (aa (ae mZ (ae jQ (mv 2) (mv 0)) (mv 3)) (aa (ae mZ (ae jQ (mv 2) (mv 1)) (mv 3)) ag)))))))
noncomputable def cz:List AV->S->R AV:=eB 5 iN
noncomputable def ju:Ms:=
 (aC (cw 2 (aR (BF "str" l9 (mc (.str "b aa zebra c quartzes ab m knows d mm likes z ba abcdefgh y zz e x f g hh jj kk pave")) (aa (mc (.str " ")) ag))))
 (bh (aR (cj [("_law_turn",none),("_law_some",some 2),("_law_state",some 0)] (qr (aa (mv 1) ag)) (gN 0) js (nr "list" qY (mv 1) (aa (aD 2 aO (aa (mv 2) (aa (ua hX (aa (mv 1) ag)) ag))) ag))))))
noncomputable def dB:List AV->S->R AV:=eB 3 ju
noncomputable def kr:Ms:=
 (aC (cw 1 (Ge (ae bj (aR (dc (aa (mc (.int 2)) (aa (mc (.int 3)) (aa (mc (.int 4)) (aa (mc (.int 5)) (aa (mc (.int 10)) (aa (ae cZ (mc (.int 1)) (aD 2 aO (aa (mv 0) (aa (mc (.int 60)) ag)))) ag)))))))) (aD 2 aO (aa (mv 0) (aa (mc (.int 6)) ag))))))
 (bh (aD 2 cz (aa (ae cZ (mc (.int 1)) (aD 2 aO (aa (mv 0) (aa (mv 1) ag)))) (aa (mv 1) ag)))))
noncomputable def du:List AV->S->R AV:=eB 2 kr
end Ro
namespace Mm
open PySem L2
theorem xT {n:Nat}(h:n<=1000):n<=sizeLine:=Nat.le_of_lt (bZ h)
def R.wp {α:Type}:R α->(α->S->Prop)->Prop
 | .ok a s,Q=>Q a s
 | _,_=>False
def RS.wp:RS->(En->S->Prop)->(AV->S->Prop)->Prop
 | .nx e s,N,_=>N e s
 | .rt v s,_,T=>T v s
 | _,_,_=>False
theorem R.wp.mono {α:Type}{m:R α}{Q Q':α->S->Prop}(h:m.wp Q)(k:∀ a s,Q a s->Q' a s):m.wp Q':=by
 cases m with
 | ok a s=>exact k a s h
 | ex c s=>exact h.elim
 | bad=>exact h.elim
theorem RS.wp.mono {m:RS}{N N':En->S->Prop}{T T':AV->S->Prop}(h:m.wp N T)(k:∀ a s,N a s->N' a s)(l:∀ a s,T a s->T' a s):m.wp N' T':=by
 cases m with
 | nx a s=>exact k a s h
 | rt a s=>exact l a s h
 | _=>exact h.elim
theorem R.wp.get {α:Type}{m:R α}{Q:α->S->Prop}(h:m.wp Q):∃ a s,m=.ok a s/\Q a s:=by
 cases m with
 | ok a s=>exact⟨a,s,rfl,h⟩
 | ex c s=>exact h.elim
 | bad=>exact h.elim
theorem R.wp.eq {α:Type}{m:R α}{v:α}{s:S}(h:m.wp (λ a s'=>a=v/\s'=s)):m=.ok v s:=by
 obtain⟨a,s',e,rfl,rfl⟩:=h.get;exact e
theorem nN {α:Type}(a:α)(s:S)(Q:α->S->Prop):(R.ok a s).wp Q=Q a s:=rfl
theorem wp_bind {α β:Type}(m:R α)(f:α->S->R β)(Q:β->S->Prop):(m.bind f).wp Q=m.wp λ a s=>(f a s).wp Q:=by
 cases m<;>rfl
theorem bW {α:Type}(m:R α)(f:α->S->RS)(N:En->S->Prop)(T:AV->S->Prop):(m.dI f).wp N T=m.wp λ a s=>(f a s).wp N T:=by
 cases m<;>rfl
theorem wz {α:Type}(m:R α)(Q:α->S->Prop):m.calm.wp Q=m.wp Q:=by
 cases m<;>rfl
theorem jA {α:Type}(c:Prop){_:Decidable c}(m:R α)(Q:α->S->Prop):(if c then m else .bad).wp Q=(c/\m.wp Q):=by
 by_cases h:c
 ·rw[if_pos h];exact propext ⟨λ k=>⟨h,k⟩,λ k=>k.2⟩
 ·rw[if_neg h];exact propext ⟨λ k=>k.elim,λ k=>(h k.1).elim⟩
theorem zg (c:Prop){_:Decidable c}(m:RS)(N:En->S->Prop)(T:AV->S->Prop):(if c then m else .bad).wp N T=(c/\m.wp N T):=by
 by_cases h:c
 ·rw[if_pos h];exact propext ⟨λ k=>⟨h,k⟩,λ k=>k.2⟩
 ·rw[if_neg h];exact propext ⟨λ k=>k.elim,λ k=>(h k.1).elim⟩
theorem oK (c:Prop){_:Decidable c}{α:Type}(m n:R α)(Q:α->S->Prop):(if c then m else n).wp Q=if c then m.wp Q else n.wp Q:=by
 by_cases h:c
 ·rw[if_pos h,if_pos h]
 ·rw[if_neg h,if_neg h]
theorem zf (c:Prop){_:Decidable c}(m n:RS)(N:En->S->Prop)(T:AV->S->Prop):(if c then m else n).wp N T=if c then m.wp N T else n.wp N T:=by
 by_cases h:c
 ·rw[if_pos h,if_pos h]
 ·rw[if_neg h,if_neg h]
theorem lY {α γ:Type}(x:γ)(f:γ->R α)(Q:α->S->Prop):(need (some x) f).wp Q=(f x).wp Q:=rfl
theorem af:(([]:List AV).length<=sizeLine)=True/\(∀ a:AV,([a].length<=sizeLine)=True)/\(∀ a b:AV,([a,b].length<=sizeLine)=True)/\(∀ a b c:AV,([a,b,c].length<=sizeLine)=True)/\
  (∀ a b c d e f:AV,([a,b,c,d,e,f].length<=sizeLine)=True)/\
  (([]:List AV).length=0)=True/\(∀ a:AV,([a].length=1)=True)/\(∀ a b:AV,([a,b].length=2)=True)/\(∀ a b c:AV,([a,b,c].length=3)=True):=by
 refine⟨?_,?_,?_,?_,?_,?_,?_,?_,?_⟩<;>intros<;>first|exact eq_true rfl|exact eq_true (xT (by show(_:Nat)<=1000;simp))
theorem WS :
  (∀ (a b:Ms) (env:En) (s:S) (N:En->S->Prop) (T:AV->S->Prop),(aC a b env s).wp N T=(a env s).wp (λ e s1=>(b e s1).wp N T) T)/\
  (∀ (i:Nat) (m:Ev) (env:En) (s:S) (N:En->S->Prop) (T:AV->S->Prop),(cw i m env s).wp N T=(m env s).wp λ v s1=>N (env.set i (some v)) s1)/\
  (∀ (m:Ev) (env:En) (s:S) (N:En->S->Prop) (T:AV->S->Prop),(bh m env s).wp N T=(m env s).wp T)/\
  (∀ (c:Eb) (a b:Ms) (env:En) (s:S) (N:En->S->Prop) (T:AV->S->Prop),(fS c a b env s).wp N T=(c env s).wp λ k s1=>if k=true then (a env s1).wp N T else (b env s1).wp N T)/\
  (∀ (m:Ev) (env:En) (s:S) (N:En->S->Prop) (T:AV->S->Prop),(bI m env s).wp N T=(m env s).wp λ _ s1=>N env s1)/\
  (∀ (m:Ev) (g:Mt) (env:En) (s:S) (N:En->S->Prop) (T:AV->S->Prop),(yb m g env s).wp N T=(m env s).wp λ v s1=>(g v env s1).wp N T)/\
  (∀ (i j:Nat) (a b:Ev) (env:En) (s:S) (N:En->S->Prop) (T:AV->S->Prop),(oo i j (aa a (aa b ag)) env s).wp N T=(a env s).wp λ v s1=>(b env s1).wp λ w s2=>N ((env.set i (some v)).set j (some w)) s2)/\
  (∀ (env:En) (s:S) (N:En->S->Prop) (T:AV->S->Prop),(bR env s).wp N T=N env s)/\
  (∀ (src:Src) (eL:Mt) (b:Ms) (env:En) (s:S) (N:En->S->Prop) (T:AV->S->Prop),(sy src eL b env s).wp N T=(src env s).wp λ p s1=>(forL eL b p.2 p.1 env s1).wp N T)/\
  (∀ (d y v:Ev) (env:En) (s:S) (N:En->S->Prop) (T:AV->S->Prop),(jO d y v env s).wp N T=(v env s).wp λ a s1=>(d env s1).wp λ b s2=>(y env s2).wp λ c s3=>(putD a b c env s3).wp N T)/\
  (∀ (i:Nat) (v:AV) (env:En) (s:S) (N:En->S->Prop) (T:AV->S->Prop),(gN i v env s).wp N T=N (env.set i (some v)) s)/\
  (∀ (n:Nat) (r:xJ) (vs:List AV) (env:En) (s:S) (N:En->S->Prop) (T:AV->S->Prop),(gT n r (.tup vs) env s).wp N T=(vs.length=n/\(r vs env s).wp N T))/\
  (∀ (i:Nat) (r:xJ) (v:AV) (w:List AV) (env:En) (s:S) (N:En->S->Prop) (T:AV->S->Prop),(aT (gN i) r (v :: w) env s).wp N T=(r w (env.set i (some v)) s).wp N T)/\
  (∀ (env:En) (s:S) (N:En->S->Prop) (T:AV->S->Prop),(ie [] env s).wp N T=N env s)/\
  (∀ (o i:Ev) (r:xJ) (v:AV) (w:List AV) (env:En) (s:S) (N:En->S->Prop),(aT (j_ o i) r (v :: w) env s).wp N (λ _ _=>False)=(j_ o i v env s).wp (λ e s1=>(r w e s1).wp N (λ _ _=>False)) (λ _ _=>False))/\
  (∀ (n:Nat) (b:Ms) (v:AV) (s:S) (Q:AV->S->Prop),(eB n b [v] s).wp Q=(b (some v :: List.replicate (n - 1) none) s).wp (λ _ s1=>Q .az s1) Q)/\
  (∀ (n:Nat) (b:Ms) (v w:AV) (s:S) (Q:AV->S->Prop),(eB n b [v,w] s).wp Q=(b (some v :: some w :: List.replicate (n - 2) none) s).wp (λ _ s1=>Q .az s1) Q)/\
  (∀ (n:Nat) (b:Ms) (v w x:AV) (s:S) (Q:AV->S->Prop),(eB n b [v,w,x] s).wp Q=(b (some v :: some w :: some x :: List.replicate (n - 3) none) s).wp (λ _ s1=>Q .az s1) Q):=by
 refine⟨?_,?_,?_,?_,?_,?_,?_,?_,?_,?_,?_,?_,?_,?_,?_,?_,?_,?_⟩<;>intros
 ·rename_i a b env s N T;show(match a env s with|.nx e s1=>b e s1|r=>r).wp N T=_;cases a env s<;>rfl
 ·unfold cw;rw[bW];rfl
 ·unfold bh;rw[bW];rfl
 ·unfold fS;rw[bW];congr 1;funext k s1;exact zf _ _ _ _ _
 ·unfold bI;rw[bW];rfl
 ·unfold yb;rw[bW]
 ·rename_i i j a b env s N T
  unfold oo aa ag
  cases a env s with
  | ok v s1=>
   simp only[aA,nN]
   cases b env s1<;>rfl
  | ex c s1=>rfl
  | bad=>rfl
 ·rfl
 ·unfold sy;rw[bW]
 ·unfold jO;rw[bW];congr 1;funext k s1;rw[bW];congr 1;funext k s1;rw[bW]
 ·rfl
 ·exact zg _ _ _ _
 ·rfl
 ·rfl
 ·rename_i o i r v w env s N
  show(match j_ o i v env s with|.nx e s1=>r w e s1|q=>q).wp N _=_
  cases j_ o i v env s<;>rfl
 ·rename_i n b v s Q
  show(match b (some v :: List.replicate (n - 1) none) s with|.rt v s1=>R.ok v s1|.nx _ s1=>.ok .az s1|.ex c s1=>.ex c s1|_=>.bad).wp Q=_
  cases b (some v :: List.replicate (n - 1) none) s<;>rfl
 ·rename_i n b v w s Q
  show(match b (some v :: some w :: List.replicate (n - 2) none) s with|.rt v s1=>R.ok v s1|.nx _ s1=>.ok .az s1|.ex c s1=>.ex c s1|_=>.bad).wp Q=_
  cases b (some v :: some w :: List.replicate (n - 2) none) s<;>rfl
 ·rename_i n b v w x s Q
  show(match b (some v :: some w :: some x :: List.replicate (n - 3) none) s with|.rt v s1=>R.ok v s1|.nx _ s1=>.ok .az s1|.ex c s1=>.ex c s1|_=>.bad).wp Q=_
  cases b (some v :: some w :: some x :: List.replicate (n - 3) none) s<;>rfl
def zo (v:AV)(s:S):R (List AV × Gd):=match v with
 | .tup xs=>.ok (xs,[]) s
 | .sq xs=>.ok (xs,[]) s
 | .ref i=>need (ak s i) λ xs=>.ok (xs,[(i,xs)]) s
 | _=>.bad
theorem WE :
  (∀ (v:AV) (env:En) (s:S) (Q:AV->S->Prop),(mc v env s).wp Q=Q v s)/\
  (∀ (op:AV->AV->S->R AV) (a b:Ev) (env:En) (s:S) (Q:AV->S->Prop),(ae op a b env s).wp Q=(a env s).wp λ v s1=>(b env s1).wp λ w s2=>(op v w s2).wp Q)/\
  (∀ (op:AV->S->R AV) (a:Ev) (env:En) (s:S) (Q:AV->S->Prop),(cA op a env s).wp Q=(a env s).wp λ v s1=>(op v s1).wp Q)/\
  (∀ (r:dY) (env:En) (s:S) (Q:AV->S->Prop),(jj r env s).wp Q=(r env s).wp λ vs s1=>vs.length<=sizeLine/\Q (.tup vs) s1)/\
  (∀ (r:dY) (env:En) (s:S) (Q:List AV->S->Prop),(dc r env s).wp Q=(r env s).wp λ vs s1=>vs.length<=sizeLine/\Q vs s1)/\
  (∀ (r:dY) (env:En) (s:S) (Q:AV->S->Prop),(aR r env s).wp Q=(r env s).wp λ vs s1=>Q (.ref s1.length) (s1++[.lst vs]))/\
  (∀ (n:Nat) (F:List AV->S->R AV) (r:dY) (env:En) (s:S) (Q:AV->S->Prop),(aD n F r env s).wp Q=(r env s).wp λ vs s1=>vs.length=n/\(F vs s1).wp Q)/\
  (∀ (a:Ev) (r:dY) (env:En) (s:S) (Q:List AV->S->Prop),(aa a r env s).wp Q=(a env s).wp λ v s1=>(r env s1).wp λ vs s2=>Q (v :: vs) s2)/\
  (∀ (env:En) (s:S) (Q:List AV->S->Prop),(ag env s).wp Q=Q [] s)/\
  (∀ (m:Ev) (env:En) (s:S) (Q:Bool->S->Prop),(cB m env s).wp Q=(m env s).wp λ v s1=>match v with|.bl b=>Q b s1|_=>False)/\
  (∀ (m:Ev) (env:En) (s:S) (Q:Bool->S->Prop),(cT m env s).wp Q=(m env s).wp λ v s1=>match truth v s1 with|some b=>Q b s1|none=>False)/\
  (∀ (a:Eb) (env:En) (s:S) (Q:Bool->S->Prop),(oG a env s).wp Q=(a env s).wp λ c s1=>Q (!c) s1)/\
  (∀ (a b:Eb) (env:En) (s:S) (Q:Bool->S->Prop),(Cg a b env s).wp Q=(a env s).wp λ c s1=>if c=true then (b env s1).wp Q else Q false s1)/\
  (∀ (a b:Eb) (env:En) (s:S) (Q:Bool->S->Prop),(Cf a b env s).wp Q=(a env s).wp λ c s1=>if c=true then Q true s1 else (b env s1).wp Q)/\
  (∀ (env:En) (s:S) (Q:Bool->S->Prop),(js env s).wp Q=Q true s)/\
  (∀ (c:Eb) (a b:Ev) (env:En) (s:S) (Q:AV->S->Prop),(JF c a b env s).wp Q=(c env s).wp λ k s1=>if k=true then (a env s1).wp Q else (b env s1).wp Q)/\
  (∀ (op:List AV->S->R AV) (r:dY) (env:En) (s:S) (Q:AV->S->Prop),(ua op r env s).wp Q=(r env s).wp λ vs s1=>(op vs s1).wp Q)/\
  (∀ {α:Type}(op:List AV->S->R α) (r:dY) (env:En) (s:S) (Q:α->S->Prop),(CJ op r env s).wp Q=(r env s).wp λ vs s1=>(op vs s1).wp Q)/\
  (∀ (m:Ev) (env:En) (s:S) (Q:List AV->S->Prop),(EH m env s).wp Q=(m env s).wp λ v s1=>(need (items v s1) λ xs=>.ok xs s1).wp Q)/\
  (∀ (r:dY) (env:En) (s:S) (Q:List AV × Gd->S->Prop),(uo r env s).wp Q=(r env s).wp λ xs s1=>Q (xs,[]) s1)/\
  (∀ (m:Ev) (env:En) (s:S) (Q:List AV × Gd->S->Prop),(fR m env s).wp Q=(m env s).wp λ v s1=>(zo v s1).wp Q)/\
  (∀ (l:Lc) (src:Src) (eL:Mt) (test:Eb) (elt:Ev) (env:En) (s:S) (Q:List AV->S->Prop),(cj l src eL test elt env s).wp Q=(src env s).wp λ p s1=>p.1.length<=sizeLine/\(bY eL test elt p.2 p.1 (vz l env) s1 []).wp Q)/\
  (∀ (n:String) (op:AV->List AV->S->R AV) (o:Ev) (r:dY) (env:En) (s:S) (Q:AV->S->Prop),(nr n op o r env s).wp Q=(o env s).wp λ v s1=>(iY n v s1).isSome=true/\(r env s1).wp λ vs s2=>(op v vs s2).wp Q)/\
  (∀ {α:Type}(n:String) (op:AV->List AV->S->R α) (o:Ev) (r:dY) (env:En) (s:S) (Q:α->S->Prop),(BF n op o r env s).wp Q=(o env s).wp λ v s1=>(iY n v s1).isSome=true/\(r env s1).wp λ vs s2=>(op v vs s2).wp Q)/\
  (∀ (n:String) (op:AV->List AV->S->R AV) (o:Ev) (env:En) (s:S) (Q:AV->S->Prop),(rm n op o env s).wp Q=(o env s).wp λ v s1=>(iY n v s1).isSome=true/\(op v [] s1).wp Q)/\
  (∀ (d y z:Ev) (env:En) (s:S) (Q:AV->S->Prop),(pS d y z env s).wp Q=(d env s).wp λ a s1=>(iY "dict" a s1).isSome=true/\(y env s1).wp λ b s2=>(z env s2).wp λ c s3=>(Ay a b c s3).wp Q)/\
  (∀ (env:En) (s:S) (Q:AV->S->Prop),(vj env s).wp Q=Q (.ref s.length) (s++[.dK []]))/\
  (∀ (m:Ev) (lo hi:Eo) (env:En) (s:S) (Q:AV->S->Prop),(FV m lo hi env s).wp Q=(m env s).wp λ v s1=>(lo env s1).wp λ l s2=>(hi env s2).wp λ h s3=>(Aw v l h s3).wp Q)/\
  (∀ (env:En) (s:S) (Q:Option Int->S->Prop),(oN env s).wp Q=Q none s)/\
  (∀ (m:Ev) (env:En) (s:S) (Q:Option Int->S->Prop),(oS m env s).wp Q=(m env s).wp λ v s1=>match v with|.int i=>Q (some i) s1|_=>False)/\
  (∀ (a b:Ev) (env:En) (s:S) (Q:AV->S->Prop),(sS a b env s).wp Q=(a env s).wp λ v s1=>match v with|.bl true=>(b env s1).wp Q|.bl false=>Q (.bl false) s1|_=>False)/\
  (∀ (a b:Ev) (env:En) (s:S) (Q:AV->S->Prop),(Nt a b env s).wp Q=(a env s).wp λ v s1=>match v with|.bl true=>Q (.bl true) s1|.bl false=>(b env s1).wp Q|_=>False)/\
  (∀ (m:Ev) (env:En) (s:S) (Q:AV->S->Prop),(BD m env s).wp Q=(m env s).wp λ v s1=>(s1.take s.length=s/\v.low s.length=true)/\Q v s)/\
  (∀ (m:Eb) (env:En) (s:S) (Q:Bool->S->Prop),(Md m env s).wp Q=(m env s).wp λ v s1=>(s1.take s.length=s)/\Q v s)/\
  (∀ (m:Ev) (env:En) (s:S) (Q:AV->S->Prop),(Ge m env s).wp Q=(m env s).wp λ v s1=>((s1.take s.length).all (AO.low s.length)=true/\v.low s.length=true)/\Q v (s1.take s.length))/\
  (∀ (m:Ev) (env:En) (s:S) (Q:List AV->S->Prop),(jZ m env s).wp Q=(m env s).wp λ v s1=>match v with|.ref k=>(need (ak s1 k) λ xs=>if s.length<=k/\(s1.take s.length).all (AO.low s.length)=true/\aG s.length xs=true then .ok xs (s1.take s.length) else .bad).wp Q|_=>False):=by
 refine⟨?_,?_,?_,?_,?_,?_,?_,?_,?_,?_,?_,?_,?_,?_,?_,?_,?_,?_,?_,?_,?_,?_,?_,?_,?_,?_,?_,?_,?_,?_,?_,?_,?_,?_,?_,?_⟩<;>intros
 ·rfl
 ·unfold ae;rw[wp_bind];congr 1;funext v s1;rw[wp_bind]
 ·unfold cA;rw[wp_bind]
 ·unfold jj;rw[wp_bind];congr 1;funext v s1;exact jA _ _ _
 ·unfold dc;rw[wp_bind];congr 1;funext v s1;exact jA _ _ _
 ·unfold aR;rw[wp_bind];rfl
 ·unfold aD;rw[wp_bind];congr 1;funext v s1;exact jA _ _ _
 ·unfold aa;rw[wp_bind];congr 1;funext v s1;rw[wp_bind];rfl
 ·rfl
 ·unfold cB;rw[wp_bind];congr 1;funext v s1;cases v<;>rfl
 ·unfold cT;rw[wp_bind];congr 1;funext v s1;cases truth v s1<;>rfl
 ·unfold oG;rw[wp_bind];rfl
 ·unfold Cg;rw[wp_bind];congr 1;funext v s1;exact oK _ _ _ _
 ·unfold Cf;rw[wp_bind];congr 1;funext v s1;exact oK _ _ _ _
 ·rfl
 ·unfold JF;rw[wp_bind];congr 1;funext v s1;exact oK _ _ _ _
 ·unfold ua;rw[wp_bind]
 ·unfold CJ;rw[wp_bind]
 ·unfold EH;rw[wp_bind]
 ·unfold uo;rw[wp_bind];rfl
 ·unfold fR;rw[wp_bind];rfl
 ·unfold cj;rw[wp_bind];congr 1;funext v s1;exact jA _ _ _
 ·unfold nr;rw[wp_bind];congr 1;funext v s1
  cases iY _ v s1 with
  | none=>exact propext ⟨λ k=>k.elim,λ k=>nomatch k.1⟩
  | some u=>rw[lY,wp_bind];exact propext ⟨λ k=>⟨rfl,k⟩,λ k=>k.2⟩
 ·unfold BF;rw[wp_bind];congr 1;funext v s1
  cases iY _ v s1 with
  | none=>exact propext ⟨λ k=>k.elim,λ k=>nomatch k.1⟩
  | some u=>rw[lY,wp_bind];exact propext ⟨λ k=>⟨rfl,k⟩,λ k=>k.2⟩
 ·unfold rm;rw[wp_bind];congr 1;funext v s1
  cases iY _ v s1 with
  | none=>exact propext ⟨λ k=>k.elim,λ k=>nomatch k.1⟩
  | some u=>rw[lY];exact propext ⟨λ k=>⟨rfl,k⟩,λ k=>k.2⟩
 ·unfold pS;rw[wp_bind];congr 1;funext v s1
  cases iY _ v s1 with
  | none=>exact propext ⟨λ k=>k.elim,λ k=>nomatch k.1⟩
  | some u=>
   rw[lY,wp_bind]
   simp only[wp_bind]
   exact propext ⟨λ k=>⟨rfl,k⟩,λ k=>k.2⟩
 ·rfl
 ·unfold FV;rw[wp_bind];congr 1;funext v s1;rw[wp_bind];congr 1;funext v s1;rw[wp_bind]
 ·rfl
 ·unfold oS;rw[wp_bind];congr 1;funext v s1;cases v<;>rfl
 ·unfold sS;rw[wp_bind];congr 1;funext v s1
  cases v with
  | bl b=>cases b<;>rfl
  | _=>rfl
 ·unfold Nt;rw[wp_bind];congr 1;funext v s1
  cases v with
  | bl b=>cases b<;>rfl
  | _=>rfl
 ·unfold BD;rw[wp_bind];congr 1;funext v s1;exact jA _ _ _
 ·unfold Md;rw[wp_bind];congr 1;funext v s1;exact jA _ _ _
 ·unfold Ge;rw[wp_bind];congr 1;funext v s1;exact jA _ _ _
 ·unfold jZ;rw[wp_bind];congr 1;funext v s1;cases v<;>rfl
theorem nG {eL:Mt}{b:Ms}{gs:Gd}{N:En->S->Prop}{T:AV->S->Prop}(I:List AV->En->S->Prop)(hg:∀ l env s,I l env s->tm gs s)(h0:∀ env s,I [] env s->N env s)
  (h1:∀ v r env s,I (v :: r) env s->(eL v env s).wp (λ e s1=>(b e s1).wp (I r) T) (λ _ _=>False)):∀ l env s,I l env s->(forL eL b gs l env s).wp N T
 | [],env,s,h=>by unfold forL;rw[if_pos (hg _ _ _ h)];exact h0 env s h
 | v :: r,env,s,h=>by
  unfold forL
  rw[if_pos (hg _ _ _ h)]
  have k:=h1 v r env s h
  revert k
  cases eL v env s with
  | nx e1 s1=>
   intro k
   have k:(b e1 s1).wp (I r) T:=k
   dsimp only
   revert k
   cases b e1 s1 with
   | nx e2 s2=>intro k;exact nG I hg h0 h1 r e2 s2 k
   | rt e2 s2=>intro k;exact k
   | _=>intro k;exact k.elim
  | _=>intro k;exact k.elim
theorem kL {eL:Mt}{test:Eb}{elt:Ev}{gs:Gd}{Q:List AV->S->Prop}(I:List AV->List AV->En->S->Prop)(hg:∀ l acc env s,I l acc env s->tm gs s)(h0:∀ acc env s,I [] acc env s->Q acc s)
  (h1:∀ v r acc env s,I (v :: r) acc env s->(eL v env s).wp (λ e s1=>(test e s1).wp λ c s2=>if c=true then (elt e s2).wp λ x s3=>I r (acc++[x]) e s3 else I r acc e s2) (λ _ _=>False)):∀ l acc env s,I l acc env s->(bY eL test elt gs l env s acc).wp Q
 | [],acc,env,s,h=>by unfold bY;rw[if_pos (hg _ _ _ _ h)];exact h0 acc env s h
 | v :: r,acc,env,s,h=>by
  unfold bY
  rw[if_pos (hg _ _ _ _ h)]
  have k:=h1 v r acc env s h
  revert k
  cases eL v env s with
  | nx e1 s1=>
   intro k
   dsimp only
   rw[wp_bind,wz]
   refine R.wp.mono k λ c s2 k=>?_
   rw[oK,wp_bind,wz]
   split
   ·rename_i hc;rw[if_pos hc]at k
    exact R.wp.mono k λ x s3 k=>kL I hg h0 h1 r (acc++[x]) e1 s3 k
   ·rename_i hc;rw[if_neg hc]at k
    exact kL I hg h0 h1 r acc e1 s2 k
  | _=>intro k;exact k.elim
end Mm
namespace Mm
open PySem L2
theorem aB {α:Type}{m:R α}{v:α}{s:S}(h:m=.ok v s)(Q:α->S->Prop):m.wp Q=Q v s:=by rw[h];rfl
theorem qo {m:RS}{e:En}{s:S}(h:m=.nx e s)(N:En->S->Prop)(T:AV->S->Prop):m.wp N T=N e s:=by rw[h];rfl
theorem Gz (f:En->S->Nat)(c:Eb)(b:Ms)(env:En)(s:S)(N:En->S->Prop)(T:AV->S->Prop):(Dk f c b env s).wp N T=(Cy c b (f env s) env s).wp N T:=rfl
theorem WV :
  (∀ (v:AV) (l:En) (s:S) (Q:AV->S->Prop),(mv 0 (some v :: l) s).wp Q=Q v s)/\
  (∀ (n:Nat) (x:Option AV) (l:En) (s:S) (Q:AV->S->Prop),(mv (n+1) (x :: l) s).wp Q=(mv n l s).wp Q)/\
  (∀ (i j:Int) (s:S) (Q:AV->S->Prop),(cZ (.int i) (.int j) s).wp Q=Q (.int (i+j)) s)/\
  (∀ (i j:Int) (s:S) (Q:AV->S->Prop),(KQ (.int i) (.int j) s).wp Q=Q (.int (i - j)) s)/\
  (∀ (i j:Int) (s:S) (Q:AV->S->Prop),(jQ (.int i) (.int j) s).wp Q=((CO i/\CO j)/\Q (.int (i * j)) s))/\
  (∀ (i j:Int) (s:S) (Q:AV->S->Prop),(mZ (.int i) (.int j) s).wp Q=((j≠0/\JA j)/\Q (.int (i.fdiv j)) s))/\
  (∀ (i j:Int) (s:S) (Q:AV->S->Prop),(hW (.int i) (.int j) s).wp Q=(j≠0/\Q (.int (i.fmod j)) s))/\
  (∀ (i:Int) (s:S) (Q:AV->S->Prop),(wR (.int i) s).wp Q=Q (.int (-i)) s)/\
  (∀ (b:Bool) (s:S) (Q:AV->S->Prop),(qZ (.bl b) s).wp Q=Q (.bl (!b)) s)/\
  (∀ (i j:Int) (s:S) (Q:AV->S->Prop),(Ax (.int i) (.int j) s).wp Q=Q (.bl (decide (i < j))) s)/\
  (∀ (i j:Int) (s:S) (Q:AV->S->Prop),(ON (.int i) (.int j) s).wp Q=Q (.bl (decide (i<=j))) s)/\
  (∀ (i j:Int) (s:S) (Q:AV->S->Prop),(vJ (.int i) (.int j) s).wp Q=Q (.bl (decide (j < i))) s)/\
  (∀ (i j:Int) (s:S) (Q:AV->S->Prop),(Az (.int i) (.int j) s).wp Q=Q (.bl (decide (j<=i))) s)/\
  (∀ (i j:Int) (s:S) (Q:AV->S->Prop),(dM (.int i) (.int j) s).wp Q=Q (.bl (decide (i=j))) s)/\
  (∀ (i j:Int) (s:S) (Q:AV->S->Prop),(ou (.int i) (.int j) s).wp Q=Q (.bl (!decide (i=j))) s)/\
  (∀ (i j:Str) (s:S) (Q:AV->S->Prop),(dM (.str i) (.str j) s).wp Q=Q (.bl (decide (i=j))) s)/\
  (∀ (i j:Str) (s:S) (Q:AV->S->Prop),(ou (.str i) (.str j) s).wp Q=Q (.bl (!decide (i=j))) s)/\
  (∀ (v:AV) (s:S) (Q:AV->S->Prop),(jR v .az s).wp Q=Q (.bl (h_ v)) s)/\
  (∀ (v:AV) (s:S) (Q:AV->S->Prop),(DW v .az s).wp Q=Q (.bl (!h_ v)) s)/\
  (∀ (i:Int) (s:S) (Q:AV->S->Prop),(rb [.int i] s).wp Q=Q (.int (if i < 0 then -i else i)) s)/\
  (∀ (i j:Int) (s:S) (Q:AV->S->Prop),(KR [.int i,.int j] s).wp Q=Q (.int (if j < i then j else i)) s)/\
  (∀ (i:Int) (s:S) (Q:AV->S->Prop),(FR [.int i] s).wp Q=Q (.int i) s)/\
  (∀ (i:Bool) (s:S) (Q:AV->S->Prop),(FR [.bl i] s).wp Q=Q (.int (if i then 1 else 0)) s)/\
  (∀ (xs:List AV) (i:Int) (s:S) (Q:AV->S->Prop),(bj (.tup xs) (.int i) s).wp Q=(need (jx xs i) λ v=>.ok v s).wp Q)/\
  (∀ (k:Nat) (i:Int) (s:S) (Q:AV->S->Prop),(bj (.ref k) (.int i) s).wp Q=(need (ak s k) λ xs=>need (jx xs i) λ v=>.ok v s).wp Q)/\
  (∀ {α:Type}(a:α) (s:S) (Q:α->S->Prop),(R.ok a s).wp Q=Q a s)/\
  (∀ (e:En) (s:S) (N:En->S->Prop) (T:AV->S->Prop),(RS.nx e s).wp N T=N e s)/\
  (∀ {α γ:Type}(x:γ) (f:γ->R α) (Q:α->S->Prop),(need (some x) f).wp Q=(f x).wp Q)/\
  (∀ (xs:List AV) (s:S) (Q:List AV × Gd->S->Prop),(zo (.tup xs) s).wp Q=Q (xs,[]) s)/\
  (∀ (i j:Int) (s:S) (Q:AV->S->Prop),(wQ (.int i) (.int j) s).wp Q=(FH i j/\Q (.int (i ^ j.toNat)) s))/\
  (∀ (i j:Int) (s:S) (Q:AV->S->Prop),(jS [.int i,.int j] s).wp Q=((0 < j/\JA j)/\Q (.tup [.int (i / j),.int (i % j)]) s)):=by
 refine⟨?_,?_,?_,?_,?_,?_,?_,?_,?_,?_,?_,?_,?_,?_,?_,?_,?_,?_,?_,?_,?_,?_,?_,?_,?_,?_,?_,?_,?_,?_,?_⟩<;>intros<;>first|rfl|exact jA _ _ _
theorem Lq :
  (∀ (x y:Option AV) (l:En),(x :: l).set 0 y=y :: l)/\
  (∀ (x y:Option AV) (l:En) (n:Nat),(x :: l).set (n+1) y=x :: l.set n y)/\
  (∀ (n:Nat) (x:Option AV),List.replicate (n+1) x=x :: List.replicate n x)/\
  (∀ (x:Option AV),List.replicate 0 x=[])/\
  (∀ (a:AV) (l:List AV),jx (a :: l) 0=some a)/\(∀ (a b:AV) (l:List AV),jx (a :: b :: l) 1=some b)/\(∀ (a b c:AV) (l:List AV),jx (a :: b :: c :: l) 2=some c)/\
  (∀ (l:Lc) (env:En),vz l env=l.map λ p=>p.2.bind λ j=>(env[j]?).join)/\
  (∀ (x:Option AV) (l:En),(x :: l)[0]? = some x)/\
  (∀ (x:Option AV) (l:En) (n:Nat),(x :: l)[n+1]? = l[n]?)/\
  (∀ {α β:Type}(f:α->β),[].map f=[])/\
  (∀ {α β:Type}(f:α->β) (x:α) (l:List α),(x :: l).map f=f x :: l.map f)/\
  (∀ {α β:Type}(f:α->Option β),(none:Option α).bind f=none)/\
  (∀ {α β:Type}(f:α->Option β) (x:α),(some x).bind f=f x)/\
  (∀ {α:Type}(x:Option α),(some x).join=x):=by
 refine⟨?_,?_,?_,?_,?_,?_,?_,?_,?_,?_,?_,?_,?_,?_,?_⟩<;>intros<;>first|rfl|skip
 ·exact jw (j:=0) rfl
 ·exact jw (j:=1) rfl
 ·exact jw (j:=2) rfl
theorem UU:(∀ p:Prop,(True ∧ p)=p) ∧ (∀ p:Prop,(p ∧ True)=p) ∧ (∀ {α:Type}{_:Decidable True}(a b:α),(if True then a else b)=a) ∧ (∀ {α:Type}{_:Decidable False}(a b:α),(if False then a else b)=b) ∧ ((false=true)=False) ∧ (∀ (p:Prop){_:Decidable p},(decide p=true)=p) ∧ (∀ b:Bool,((!b)=true)=(b=false)) ∧ (∀ (p:Prop){_:Decidable p},(decide p=false)=¬p):=by
 refine⟨λ p=>true_and p,λ p=>and_true p,λ a b=>if_true a b,λ a b=>if_false a b,Bool.false_eq_true,λ p _=>decide_eq_true_eq,λ b=>Bool.not_eq_true' b,λ p _=>propext decide_eq_false_iff_not⟩

end Mm
local macro_rules | `(tactic| walk_at "w") => `(tactic| simp only [↓Mm.WS, ↓Mm.WE, ↓Mm.WV, Mm.Lq, Mm.af, Mm.UU, Nat.reduceSub, ↓reduceIte])
namespace Ro
open PySem L2 Mm
structure Df (T:Tx)(mg:Str->Option Value)(x:Str)(st:Stmt):Prop where
 ex:∃ f fd,Cu T.K x x st f fd/\mg x=some (.ref f)
theorem dP {K:PySem.W.Frag}{cl:Nat->Addr}{h:Heap}{mg:Str->Option Value}{x:Str}{st:Stmt}{f:Addr}{oc:Value}{od an:Option Addr}{qv:Array (Option Value)}{kV doc pm dD ct:Value}(X:K.In h)(G:h.Ns mainGlobals mg)(a:PySem.W.nsIn K mainGlobals x=some (some (.ref f)))
  (l:K.lookup f=some ⟨oc,od,.func (PySem.W.fnOf x x (cO st) (bL st) (ax st) .none kV doc pm an dD ct),qv⟩) (c:PySem.W.codeIn K dD x=true) (k:PySem.W.keepIn K (.ref f)=true):Df ⟨K,cl⟩ mg x st:=
 ⟨⟨f,_,tu l c k,PySem.W.mg_of X G a⟩⟩
theorem IG {K:PySem.W.Frag}{cl:Nat->Addr}{h:Heap}{mg:Str->Option Value}{x:Str}{f:Addr}{od:Option Addr}{it:Array Value}{n:Nat}{sl:Array (Option Value)}{vs:List V}{as:List AV}(X:K.In h)(G:h.Ns mainGlobals mg)(a:PySem.W.nsIn K mainGlobals x=some (some (.ref f))) (l:K.lookup f=some ⟨.type "tuple",od,.seq it n,sl⟩)(v:Vals vs it.toList)(hs:vs.length<=1000)(hv:∀ ρ H,aJ ⟨K,cl⟩ ρ H as vs):CN ⟨K,cl⟩ mg x (.tup as):=
 ⟨.ref f,.ref f,PySem.W.mg_of X G a,rfl,λ ρ H=>jJ (hR.const l v hs) (hv ρ H)⟩
theorem EJ {K:PySem.W.Frag}{cl:Nat->Addr}{h:Heap}{mg:Str->Option Value}{x:Str}{u:Value}{v:V}{a:AV}(X:K.In h)(G:h.Ns mainGlobals mg)(e:PySem.W.nsIn K mainGlobals x=some (some u)) (r:RelV v u)(hv:∀ ρ H,VR ⟨K,cl⟩ ρ H a v):CN ⟨K,cl⟩ mg x a:=⟨v,u,PySem.W.mg_of X G e,r,hv⟩
section
variable {P:Program}{w:World}{T:Tx}{mg:Str->Option Value}{base:Heap}
end
end Ro
namespace L2
open PySem PySem.Spec PyProof.Rows
theorem Inv.AB {X:Cx}{pins:List (Addr × Obj)}{σ:St}{H:Hp}{s:Shared}(I:Inv X pins σ H s):s.heap.NoDigits:=I.ok.mod.AB.keeps I.bk
theorem Ht {X:Cx}{e:Expr}{te:TE}{pos:Pos}(hc:X.calm=true)(h:PE X e te):PE X (.FormattedValue e (-1) none pos) (λ σ H Q=>te σ H λ x H1=>(∃ i,x=.int i/\i.natAbs < 10 ^ 4300/\Q (.str (toString i)) H1)∨∃ t,x=.str t/\t.length<=sizeLine/\Q (.str t) H1):=by
 intro pins s σ H Q I hq
 refine wpAny_FormattedValue_plain (bG (h pins s σ H _ I hq) λ u s1 ⟨x,H1,I1,rx,q⟩=>?_)
 rcases q with⟨i,rfl,hz,q⟩|⟨t,rfl,hz,q⟩
 ·obtain⟨t,rfl⟩:=rx
  exact PyProof.Rows.formatField_int (I1.ok.hd hc) I1.AB (λ _=>⟨.str _,H1,I1.tok _,⟨_,rfl⟩,q⟩) λ LU=>absurd hz (Nat.not_lt.mpr LU)
 ·obtain⟨t',rfl⟩:=rx
  exact wpAny_formatField_str ⟨.str _,H1,I1,⟨_,rfl⟩,q⟩ ⟨.str _,H1,I1.tok _,⟨_,rfl⟩,q⟩ hz
abbrev TJ:=St->Hp->Str->(Str->Hp->Prop)->Prop
def PJ (X:Cx)(es:List Expr)(t:TJ):Prop:=∀ (pins:List (Addr × Obj)) (s:Shared) (σ:St) (H:Hp) (acc:Str) (Q:Str->Hp->Prop),Inv X pins σ H s->t σ H acc Q->
 Joins (model X.prog X.w) X.A X.xe (evalEach es X.env) acc (λ out s1=>∃ H1,Inv X pins σ H1 s1/\Q out H1) s
def Kd:TJ:=λ σ H acc Q=>Q acc H
def GI (te:TE)(r:TJ):TJ:=λ σ H acc Q=>te σ H λ x H1=>∃ y,x=.str y/\(acc++y).length<=sizeLine/\r σ H1 (acc++y) Q
theorem Hh {X:Cx}:PJ X [] Kd:=λ pins s σ H acc Q I h=>⟨H,I,h⟩
theorem DF {X:Cx}{e:Expr}{es:List Expr}{te:TE}{r:TJ}(he:PE X e te)(hr:PJ X es r)(hs:evalEach (e :: es) X.env=eval e X.env :: evalEach es X.env:=by rfl):PJ X (e :: es) (GI te r):=by
 intro pins s σ H acc Q I h
 rw[hs]
 refine bG (he pins s σ H _ I h) λ u s1 ⟨x,H1,I1,rx,y,ex,hl,q⟩=>?_
 subst ex
 obtain⟨t,rfl⟩:=rx
 exact⟨y,t,rfl,hl,hr pins s1 σ H1 _ Q I1 q⟩
theorem rG {M:Model}{A:Around}{E:Value->Shared->Prop}:∀ {ps:List (Sem Value)}{acc:Str}{Q Q':Str->Shared->Prop}{s:Shared},Joins M A E ps acc Q s->(∀ o s,Q o s->Q' o s)->Joins M A E ps acc Q' s
 | [],_,_,_,_,h,k=>k _ _ h
 | _ :: _,_,_,_,_,h,k=>wpAny_mono h (λ _ _ ⟨y,t,e,hl,r⟩=>⟨y,t,e,hl,rG r k⟩) λ _ _ x=>x
theorem DN {X:Cx}{e1 e2:Expr}{es:List Expr}{t:TJ}{pos:Pos}(h:PJ X (e1 :: e2 :: es) t):PE X (.JoinedStr (e1 :: e2 :: es) pos) (λ σ H Q=>t σ H Str.empty λ out H1=>out.length<=sizeLine/\Q (.str out) H1):=by
 intro pins s σ H Q I hq
 exact wpAny_JoinedStr (rG (h pins s σ H Str.empty _ I hq) λ out s1 ⟨H1,I1,hl,q⟩=>⟨hl,.str out,H1,I1.tok _,⟨_,rfl⟩,q⟩)
end L2
namespace Mm
open PySem L2
section
variable {T:Tx}{XE:gI}{X:Cx}{pos:Pos}
structure Dg (i:Int):Prop where
 f:i.natAbs < 10 ^ 4300
noncomputable instance {i:Int}:Decidable (Dg i):=Classical.propDecidable _
def Ol (i:Int):Str:=Str.ofString (toString i)
noncomputable def pH:AV->S->R AV
 | .int i,s=>if Dg i then .ok (.str (Ol i)) s else .bad
 | .str t,s=>if t.length<=sizeLine then .ok (.str t) s else .bad
 | _,_=>.bad
theorem Ir {e:Expr}{m:Ev}(hc:X.calm=true)(h:PE X e (tE T XE m)):PE X (.FormattedValue e (-1) none pos) (tE T XE (cA pH m)):=
 PE.imp (Ht hc h) λ σ H Q ⟨ρ,env,s,hs,he,ho⟩=>step hs he ho λ v s1 ρ1 H1 x _ u1 aL cb aI ay=>by
  have aI:VR T ρ1 H1 v x:=aI
  cases v<;>try exact ay.elim
  ·obtain⟨hl,ay⟩:=ay.a7
   exact .inl ⟨_,aI.int_inv,hl.f,ay.aK aL gQ⟩
  ·obtain⟨hl,ay⟩:=ay.a7
   exact .inr ⟨_,aI.str_inv,hl,ay.aK aL gQ⟩
abbrev Ej:=Str->En->S->R Str
def uM:Ej:=λ acc _ s=>.ok acc s
def hZ (m:Ev)(r:Ej):Ej:=λ acc env s=>(m env s).bind λ v s1=>match v with
 | .str y=>if (acc++y).length<=sizeLine then r (acc++y) env s1 else .bad
 | _=>.bad
def Ow:Rl Str Str:=⟨λ _ _ _ a b=>a=b,λ _ h=>h⟩
def tJ (T:Tx)(XE:gI)(m:Ej):TJ:=λ σ H acc Q=>∃ ρ env s,SR T ρ s H/\ER T ρ H env σ/\Out T XE Ow ρ H (m acc env s) Q
theorem PJ.imp {es:List Expr}{t t':TJ}(h:PJ X es t)(k:∀ σ H a Q,t' σ H a Q->t σ H a Q):PJ X es t':=λ pins s σ H a Q I hq=>h pins s σ H a Q I (k σ H a Q hq)
theorem HY:PJ X [] (tJ T XE uM):=PJ.imp Hh λ σ H a Q ⟨ρ,env,s,hs,he,ho⟩=>ho ρ H a .refl hs rfl
theorem Ei {e:Expr}{es:List Expr}{m:Ev}{r:Ej}(he:PE X e (tE T XE m)) (hr:PJ X es (tJ T XE r)) (hs:evalEach (e :: es) X.env=eval e X.env :: evalEach es X.env:=by rfl):PJ X (e :: es) (tJ T XE (hZ m r)):=
 PJ.imp (DF he hr hs) λ σ H a Q ⟨ρ,env,s,hs,he,ho⟩=>step hs he ho λ v s1 ρ1 H1 x _ u1 aL cb aI ay=>by
  have aI:VR T ρ1 H1 v x:=aI
  cases v<;>try exact ay.elim
  obtain⟨hl,ay⟩:=ay.a7
  exact⟨_,aI.str_inv,hl,ρ1,env,s1,aL,cb,ay⟩
def nV (r:Ej):Ev:=λ env s=>(r Str.empty env s).bind λ t s1=>if t.length<=sizeLine then .ok (.str t) s1 else .bad
theorem Et {e1 e2:Expr}{es:List Expr}{r:Ej}(h:PJ X (e1 :: e2 :: es) (tJ T XE r)):PE X (.JoinedStr (e1 :: e2 :: es) pos) (tE T XE (nV r)):=
 PE.imp (DN h) λ σ H Q ⟨ρ,env,s,hs,he,ho⟩=>by
  refine⟨ρ,env,s,hs,he,?_⟩
  unfold nV at ho
  cases e:r Str.empty env s with
  | bad=>rw[e]at ho;exact ho
  | ex c s1=>rw[e]at ho;exact ho
  | ok t s1=>
   rw[e]at ho
   obtain⟨hl,ho⟩:=ho.a7
   intro ρ1 H1 x u sr ex
   cases (show t=x from ex)
   exact⟨hl,(Out.up u ho).aK sr gQ⟩
end
end Mm
namespace L2
open PySem PySem.Spec PySem.W PyProof.Rows
def XT (h:Heap)(e:Addr)(vs:Array Value):Prop:=vs[1]? = some .none∨∃ T oT ts,vs[1]? = some (.ref T)/\T≠e/\h.get? T=some oT/\oT.data=.fields ts/\ts[3]? = some .none
structure Way (fs:List Addr)(e:Addr)(oe:Obj)(h h':Heap):Prop where
 keep:∀ b o,h.get? b=some o->b∉fs->b≠e->h'.get? b=some o
 slot:∀ b o,h.get? b=some o->b∈fs->∃ sl,h'.get? b=some { o with slots:=sl }
 exc:∃ vs,h'.get? e=some { oe with data:=.fields vs }/\1 < vs.size/\XT h' e vs
theorem mx {o:Obj}{ts:Array Value}(hd:o.data=.fields ts)(h3:ts[3]? = some .none):Obj.mapFields (·.setIfInBounds 3 .none) o=o:=by
 obtain⟨c,d,dat,sl⟩:=o
 have hd:dat=.fields ts:=hd
 subst hd
 show Obj.mk c d (.fields (ts.setIfInBounds 3 .none)) sl=_
 congr 2
 apply Array.ext_getElem?
 intro i
 rw[Array.getElem?_setIfInBounds]
 split
 ·rename_i hi
  subst hi
  split
  ·exact h3.symm
  ·rename_i hz
   rw[Array.getElem?_eq_none (by omega)]at h3
   cases h3
 ·rfl
theorem vP {o:Obj}{ts:Array Value}(hd:o.data=.fields ts)(f:Array Value->Array Value):Obj.mapFields f o={ o with data:=.fields (f ts) }:=by
 obtain⟨c,d,dat,sl⟩:=o
 have hd:dat=.fields ts:=hd
 subst hd
 rfl
section
variable {M:Model}{A:Around}{E:Value->Shared->Prop}{s:Shared}
theorem uW {base:Heap}{env:Env}{outer:List Env}{L e:Addr}{oe:Obj}{vs:Array Value}{head:Value}{hn:Bool}{Q:Unit->Shared->Prop}
  (F9:A.frames=some (env :: outer)) (hl:s.heap.FunFrames base (env :: outer)) (hf:env.frame=some L) (he:s.heap.get? e=some oe) (hd:oe.data=.fields vs) (hz:1 < vs.size)
  (hq:∀ h',Way (ub (env :: outer)) e oe s.heap h'->Q () { s with heap:=h' }) :
  wpAny M A (do let a <-frameOf env;let pl <-entryPlaceOf L hn;let b <-EntryCells.newEntry head a .none (rawInt L) .none pl;setField (.ref e) 1 b) (λ _ s'=>wpAny M A (setFlight (.ref e) none) Q E s') E s:=by
 have ne:e∉ub (env :: outer):=λ z=>by
  obtain⟨_,o,ho,Sm⟩:=hl.mem z
  rw[he]at ho
  cases ho
  exact Sm vs hd
 refine wpAny_bind (wpAny_frameOf_fun F9 hl hf λ g so=>?_)
 refine wpAny_bind (wpAny_entryPlaceOf λ pl fe=>?_)
 refine wpAny_bind ?_
 simp only[EntryCells.newEntry,newFields]
 refine wpAny_newObj_type ?_ (fe.sizeOk5 _ _ _ _ _)
 generalize ht:([head,Value.ref L,Value.none,rawInt L,Value.none]++(if pl.isEmpty then List.replicate 6 Value.none else pl)).toArray=tv
 have Tz:5<=tv.size:=by rw[<-ht];simp
 have ge:g.get? e=some oe:=(so.2.1 e ne).trans he
 have L9:g.objs.size≠e:=Nat.ne_of_gt (Heap.lt_size ge)
 have ge1:(g.push { cls:=.type "traceback",data:=.fields tv }).get? e=some oe:=Heap.get?_push_of_some _ ge
 refine wpAny_setField ge1 hd hz ?_
 have ed:(Obj.mapFields (·.setIfInBounds 1 (Value.ref g.objs.size)) oe)={ oe with data:=.fields (vs.setIfInBounds 1 (.ref g.objs.size)) }:=vP hd _
 have hd2:(Obj.mapFields (·.setIfInBounds 1 (Value.ref g.objs.size)) oe).data=.fields (vs.setIfInBounds 1 (.ref g.objs.size)):=by rw[ed]
 have Q8:=Heap.get?_update_self (Obj.mapFields (·.setIfInBounds 1 (Value.ref g.objs.size))) ge1 (Obj.isFreed_of_fields hd2)
 have gT:=(Heap.get?_update_other (g.push { cls:=.type "traceback",data:=.fields tv }) (Obj.mapFields (·.setIfInBounds 1 (Value.ref g.objs.size))) (Ne.symm L9)).trans (Heap.get?_push_size g rfl)
 unfold setFlight
 refine wpAny_bind (wpAny_field Q8 hd2 (x:=.ref g.objs.size) (by rw[Array.getElem?_setIfInBounds_self_of_lt hz]) ?_)
 rw[if_pos (by simp)]
 refine wpAny_setField gT rfl (by omega) (hq _ ?_)
 have QH:∀ b o,g.get? b=some o->b≠e->(((g.push { cls:=.type "traceback",data:=.fields tv }).update e (Obj.mapFields (·.setIfInBounds 1 (Value.ref g.objs.size)))).update g.objs.size (Obj.mapFields (·.setIfInBounds 3 ((none:Option Addr).elim Value.none λ f=>rawInt f)))).get? b=some o:=λ b o hb E2=>by
  rw[Heap.get?_update_other _ _ (Nat.ne_of_gt (Heap.lt_size hb)),Heap.get?_update_other _ _ (Ne.symm E2)]
  exact Heap.get?_push_of_some _ hb
 refine⟨λ b o hb h1 h2=>QH b o ((so.2.1 b h1).trans hb) h2,λ b o hb h1=>?_,?_⟩
 ·obtain⟨sl,hs⟩:=so.2.2 b o hb
  exact⟨sl,QH b _ hs λ z=>ne (z ▸ h1)⟩
 ·refine⟨vs.setIfInBounds 1 (.ref g.objs.size),?_,by simpa using hz,.inr ⟨g.objs.size,_,_,by rw[Array.getElem?_setIfInBounds_self_of_lt hz],L9,Heap.get?_update_self _ gT (Obj.isFreed_of_fields (by rw[vP (o:={ cls:=.type "traceback",data:=.fields tv }) (ts:=tv) rfl])),by rw[vP (o:={ cls:=.type "traceback",data:=.fields tv }) (ts:=tv) rfl],?_⟩⟩
  ·rw[Heap.get?_update_other _ _ L9,Q8,ed]
  ·rw[Array.getElem?_setIfInBounds_self_of_lt (by omega)];rfl
theorem w4 {base:Heap}{env:Env}{outer:List Env}{L e:Addr}{oe:Obj}{vs:Array Value}{Q:Unit->Shared->Prop}
  (F9:A.frames=some (env :: outer)) (hl:s.heap.FunFrames base (env :: outer)) (hf:env.frame=some L) (he:s.heap.get? e=some oe) (hd:oe.data=.fields vs) (hx:XT s.heap e vs)
  (hq:∀ h',Way (ub (env :: outer)) e oe s.heap h'->Q () { s with heap:=h' }):wpAny M A (noteFrame (.ref e) env) (λ _ s'=>wpAny M A (setFlight (.ref e) none) Q E s') E s:=by
 unfold noteFrame
 simp only[hf]
 rcases hx with h1|⟨T,oT,ts,h1,L9,hT,hdT,h3⟩
 ·refine wpAny_bind (wpAny_field he hd h1 ?_)
  rw[if_neg (by decide)]
  exact uW F9 hl hf he hd (Array.getElem?_eq_some_iff.mp h1).1 hq
 ·refine wpAny_bind (wpAny_field he hd h1 ?_)
  rw[if_pos (show(Value.ref T != Value.none)=true from by simp)]
  refine wpAny_bind (wpAny_field hT hdT h3 ?_)
  rw[if_neg (show ¬ ((Value.none == rawInt L)=true) from by simp[rawInt])]
  refine wpAny_bind (wpAny_setField hT hdT (Array.getElem?_eq_some_iff.mp h3).1 ?_)
  have same:∀ b o,s.heap.get? b=some o->(s.heap.update T (Obj.mapFields (·.setIfInBounds 3 Value.none))).get? b=some o:=λ b o hb=>by
   by_cases hbT:b=T
   ·subst hbT
    rw[hT]at hb
    cases hb
    have q:=Heap.get?_update_self (Obj.mapFields (·.setIfInBounds 3 Value.none)) hT (by rw[mx hdT h3];exact Obj.isFreed_of_fields hdT)
    rw[q,mx hdT h3]
   ·rw[Heap.get?_update_other _ _ (Ne.symm hbT)];exact hb
  refine uW (s:={ s with heap:=s.heap.update T (Obj.mapFields (·.setIfInBounds 3 Value.none)) }) F9 (hl.of_keeps λ b o hb _=>⟨o,same b o hb,rfl⟩) hf (same e oe he) hd (Array.getElem?_eq_some_iff.mp h1).1 λ h' W=>hq h' ?_
  exact⟨λ b o hb=>W.keep b o (same b o hb),λ b o hb=>W.slot b o (same b o hb),W.exc⟩
theorem Bh {base:Heap}{env:Env}{outer:List Env}{L e:Addr}{oe:Obj}{vs:Array Value}{Q:Unit->Shared->Prop}
  (F9:A.frames=some (env :: outer)) (hl:s.heap.FunFrames base (env :: outer)) (hf:env.frame=some L) (he:s.heap.get? e=some oe) (hd:oe.data=.fields vs) (hx:XT s.heap e vs)
  (hq:∀ h',Way (ub (env :: outer)) e oe s.heap h'->Q () { s with heap:=h' }):wpAny M A (leaving env (.ref e)) Q E s:=by
 unfold leaving
 exact wpAny_bind (w4 F9 hl hf he hd hx hq)
theorem yC {e:Addr}{oe:Obj}{vs:Array Value}{Q:Unit->Shared->Prop}(he:s.heap.get? e=some oe)(hd:oe.data=.fields vs)(hx:XT s.heap e vs)
  (hq:∀ h',(∀ b o,s.heap.get? b=some o->h'.get? b=some o)->Q () { s with heap:=h' }):wpAny M A (setFlight (.ref e) none) Q E s:=by
 unfold setFlight
 rcases hx with h1|⟨T,oT,ts,h1,L9,hT,hdT,h3⟩
 ·refine wpAny_bind (wpAny_field he hd h1 ?_)
  rw[if_neg (by decide)]
  exact wpAny_pure (hq s.heap λ _ _ z=>z)
 ·refine wpAny_bind (wpAny_field he hd h1 ?_)
  rw[if_pos (show(Value.ref T != Value.none)=true from by simp)]
  refine wpAny_setField hT hdT (Array.getElem?_eq_some_iff.mp h3).1 (hq _ λ b o hb=>?_)
  by_cases hbT:b=T
  ·subst hbT
   rw[hT]at hb
   cases hb
   have q:=Heap.get?_update_self (Obj.mapFields (·.setIfInBounds 3 Value.none)) hT (by rw[mx hdT h3];exact Obj.isFreed_of_fields hdT)
   exact q.trans (by rw[mx hdT h3])
  ·exact(Heap.get?_update_other _ _ (Ne.symm hbT)).trans hb
end
def CS (C e:Addr)(d:Option Addr):HO:=.ext λ h=>∃ (ox:Obj) (vs:Array Value),h.get? e=some ox/\ox.cls=.ref C/\ox.dict=d/\ox.data=.fields vs
theorem Way.aQ {P:Program}{w:World}{H:Hp}{fs:List Addr}{C e:Addr}{d:Option Addr}{oe:Obj}{h h':Heap}(W:Way fs e oe h h')(hf:∀ b∈fs,H b=none)(he:H e=some (CS C e d)) (ho:h.get? e=some oe)(hc:oe.cls=.ref C)(hn:oe.dict=d)(x:jG P w H h):jG P w H h':=λ b u q=>by
 obtain⟨vs,e1,e2,e3⟩:=W.exc
 by_cases hb:b=e
 ·subst hb
  rw[he]at q
  cases q
  exact⟨⟨_,vs,e1,hc,hn,rfl⟩,⟨_,e1⟩,λ h1 h2 ⟨ox,vs,z,r⟩ k=>⟨ox,vs,k ox z,r⟩⟩
 ·refine(x b u q).lj (λ c v hc z=>W.keep c v z (λ m=>?_) ?_) (λ c z=>z) λ c xs z=>z
  ·rcases hc with rfl|hc
   ·rw[hf c m]at q;cases q
   ·rw[hf c m]at hc;cases hc
  ·rintro rfl
   rcases hc with rfl|hc
   ·exact hb rfl
   ·rw[he]at hc;cases hc
theorem Way.un {H:Hp}{fs Mg:List Addr}{C e:Addr}{d:Option Addr}{oe:Obj}{h h':Heap}(W:Way fs e oe h h')(he:H e=some (CS C e d)) (hs:∀ b∈fs,b∈Mg):Un Mg [] H H h h':=by
 have ne:∀ b,H b=none->b≠e:=λ b n z=>by subst z;rw[he]at n;cases n
 have any:∀ b o,h.get? b=some o->b≠e->∃ sl,h'.get? b=some { o with slots:=sl }:=λ b o q z=>by
  by_cases m:b∈fs
  ·exact W.slot b o q m
  ·exact⟨o.slots,W.keep b o q m z⟩
 refine⟨λ b o q n hb _=>W.keep b o q (λ z=>hb (hs b z)) (ne b n),λ b o q n _ _=>any b o q (ne b n),λ _ _ _ n _=>n,λ b o q _=>?_,λ _ _ q=>q,λ _ _ _ q=>q,λ _ ps q=>⟨#[],by rw[q];simp⟩⟩
 by_cases z:b=e
 ·subst z
  obtain⟨vs,e1,_⟩:=W.exc
  exact⟨_,e1⟩
 ·obtain⟨sl,e1⟩:=any b o q z
  exact⟨_,e1⟩
structure Lies (C e:Addr)(d:Option Addr)(H:Hp)(h:Heap):Prop where
 Cz:H e=some (CS C e d)
 ex:∃ (ox:Obj) (vs:Array Value),h.get? e=some ox/\ox.cls=.ref C/\ox.dict=d/\ox.data=.fields vs/\XT h e vs
def nM (P:Program)(w:World):yU:=λ outer H s E ev s'=>∃ e C d H',ev=.ref e/\s'.os=s.os/\AllBare s'.gens/\Un (ub outer) [] H H' s.heap s'.heap/\jG P w H' s'.heap/\Lies C e d H' s'.heap/\E ev (some C) H'
theorem Un.way {H0 H:Hp}{fs:List Addr}{C e L:Addr}{d:Option Addr}{oe:Obj}{h0 h h':Heap}(u:Un fs [] H0 H h0 h)(W:Way (L :: fs) e oe h h') (he:H e=some (CS C e d)) (hL:h0.objs.size<=L):Un fs [] H0 H h0 h':=by
 have ne:∀ b,H b=none->b≠e:=λ b n z=>by subst z;rw[he]at n;cases n
 have nL:∀ b o,h0.get? b=some o->b≠L:=λ b o q z=>by subst z;exact absurd (Heap.lt_size q) (Nat.not_lt.mpr hL)
 refine⟨λ b o q n hb hx=>W.keep b o (u.keep b o q n hb hx) (λ z=>?_) (ne b (u.free b o q n hx)),λ b o q n hb hx=>?_,u.free,λ b o q hx=>?_,u.jC,u.iF,u.ph⟩
 ·rcases List.mem_cons.mp z with z|z
  ·exact nL b o q z
  ·exact hb z
 ·obtain⟨sl,e1⟩:=u.slot b o q n hb hx
  obtain⟨Nn,e2⟩:=W.slot b _ e1 (List.mem_cons_of_mem _ hb)
  exact⟨Nn,e2⟩
 ·obtain⟨o',e1⟩:=u.there b o q hx
  by_cases z:b=e
  ·subst z
   obtain⟨vs,e2,_⟩:=W.exc
   exact⟨_,e2⟩
  ·by_cases m:b∈L :: fs
   ·obtain⟨sl,e2⟩:=W.slot b _ e1 m
    exact⟨_,e2⟩
   ·exact⟨_,W.keep b _ e1 m z⟩
def Lets (X:Cx)(E:XK):Prop:=∀ pins σ H s e C d,Inv X pins σ H s->Lies C e d H s.heap->E (.ref e) (some C) H->X.xe (.ref e) s
theorem Lets.passes {X:Cx}{E:XK}(l:Lets X E):Passes (nM X.prog X.w) X E:=by
 rintro pins σ H s ev s' I ⟨e,C,d,H',rfl,os,bare,un,aQ,x,q⟩
 obtain⟨v,H1,J,r,rfl⟩:=I.after (Q:=λ v H1=>H1=H') (u:=.none) ⟨.az,H',os,bare,un,aQ,rfl,rfl⟩
 exact l pins σ _ s' e C d J x q
theorem EF {P:Program}{w:World}{K:PySem.W.Frag}{mg:Str->Option Value}{base:Heap}{N:List Str}{qual:Str}{scope:Scope}{f:Addr}{cd:Value}{A:Around}{outer:List Env}{s:Shared}{H:Hp}{E:XK}:Lets (jE (nM P w) P w K mg base N qual scope f cd A outer s H E) E:=by
 intro pins σ H' s' e C d I x q
 obtain⟨ox,vs,e1,e2,e3,e4,e5⟩:=x.ex
 refine Bh (base:=base) (outer:=outer) I.ok.frames I.stack rfl e1 e4 e5 λ h' W=>?_
 refine⟨e,C,d,H',rfl,I.os,I.bare,I.base.way W x.Cz (Nat.le_refl _),W.aQ I.oO x.Cz e1 e2 e3 I.aQ,⟨x.Cz,?_⟩,q⟩
 obtain⟨Qs,z1,z2,z3⟩:=W.exc
 exact⟨_,Qs,z1,e2,e3,rfl,z3⟩
def GW (C:Addr)(E:XK)(t:TA):TS:=λ _ σ H=>t σ H λ vs H1=>vs.length<=sizeLine/\∀ e,H1 e=none->E (.ref e) (some C) (upd H1 e (CS C e none))
theorem zY {X:Cx}{E:XK}{C:Addr}{nm:Str}{bm:List Value}{xn:Str}{np br pos:Pos}{a:Expr}{as:List Expr}{t:TA}(x:hJ X.K C nm bm none)(hk:PySem.W.keepIn X.K (.ref C)=true) (hg:Gl X xn)(hm:X.mg xn=some (.ref C)) (hc:X.calm=true)(l:Lets X E)(ha:PA X (a :: as) t)
  (jm:(xn == ("__debug__":Str))=false:=by decide) (he:starEach (a :: as) X.env=(false,eval a X.env) :: starEach as X.env:=by rfl) (fe:(backTo br (starEach as X.env)).any (·.1)=false:=by rfl) :
  PS X (.Raise (some (.Call (.Name xn np) (a :: as) [] br)) none pos) (GW C E t):=by
 intro pins s σ H D I h
 obtain⟨q,N,bs,sn,sub,ab,col,dd,k0,k1,k2,k3,k5,m,lC,n,i⟩:=x.ex
 have hb:bm.contains (.type "BaseException")=true:=(x.tail.Hx I.jl).hasType (X:="BaseException") (b:=true) (by decide +kernel)
 rw[arm_exec_Raise]
 refine wpAny_bind (wpAny_standAt (wpAny_raiseStmt_made_sub (C:=C) (nm:=nm) (q:=q) (N:=N) (bs:=bs) (bm:=bm) (hdct:=true) (sn:=sn) (sub:=sub) (ab:=ab) (col:=col) (dd:=dd) (k0:=k0) (k1:=k1) (k2:=k2) (k3:=k3) (k5:=k5) (newId:="ValueError.__new__") hb (I.ok.hd hc) (wpAny_bind (wpAny_mono (wpAny_Call_Name_kw (kD I hg hm ?_ jm)) (λ v s₃ h₃=>wpAny_bind (wpAny_standAt (wpAny_pure h₃))) λ _ _ x=>x))))
 refine PySem.W.callWith_K (h₀:=X.base) I.ok.mod.LB hk (bG (ha br pins s σ H _ I h) λ us s1 ⟨vs,H1,I1,r,hl,q1⟩=>⟨I1.jl,?_⟩) he fe
 obtain⟨hp,g,d,tk,os⟩:=s1
 refine wpAny_call_exc_subU (hrest:=by rw[List.nil_append,<-r.length];exact hl) PySem.F.excBase_ValueError (by decide +kernel) PySem.F.excBase_ValueError (x.tail.Hx I1.jl) (I1.jl _ _ lC) (n.ns I1.jl) i λ h' e hm=>?_
 obtain⟨t,ht,_,_⟩:=hm.there
 have yw:hp.get? e=none:=hm.new
 refine⟨e,t,rfl,hm.keeps _ _ (I1.jl _ _ lC),ht,?_⟩
 refine l pins σ _ _ e C none (I1.Lw (a:=e) (o:=CS C e none) (t':=tk) hm.keeps yw ?_) ⟨av ..,_,_,ht,rfl,rfl,rfl,.inl rfl⟩ (q1 e (I1.gone yw))
 exact⟨⟨_,_,ht,rfl,rfl,rfl⟩,⟨_,ht⟩,λ h1 h2 ⟨ox,vs,e1,r⟩ k=>⟨ox,vs,k ox e1,r⟩⟩
end L2
namespace L2
open PySem PySem.Spec PySem.W PyProof.Rows
section
variable {M:Model}{A:Around}{E:Value->Shared->Prop}{K:PySem.W.Frag}{C D:Addr}{nm RT:Str}{bm Rh:List Value}{lU Pb:Option Value}
theorem A9 {s:Shared}{e:Addr}{oe:Obj}{Q:Bool->Shared->Prop}(X:K.In s.heap)(x:hJ K C nm bm lU)(y:hJ K D RT Rh Pb)(he:s.heap.get? e=some oe)(hc:oe.cls=.ref C)(hq:Q ((Value.ref C :: bm).contains (.ref D)) s):wpAny M A (excMatches (.ref e) (.ref D)) Q E s:=by
 obtain⟨q1,N1,Ql,Tj,RC,T5,S7,TY,a0,a1,a2,a3,a5,m1,lC,n1,i1⟩:=x.ex
 obtain⟨q2,N2,Qk,Ti,RB,T4,S6,Mr,b0,b1,b2,b3,b5,m2,lD,n2,i2⟩:=y.ex
 have hC:=X _ _ lC
 have hD:=X _ _ lD
 have hb:(Value.ref D :: Rh).contains (.type "BaseException")=true:=by rw[List.contains_cons,(y.tail.Hx X).hasType (X:="BaseException") (b:=true) (by decide +kernel),Bool.or_true]
 obtain⟨hp,g,d,t,os⟩:=s
 have f:=PySem.tc_notTuple
 unfold excMatches
 repeat (first|(with_reducible refine wpAny_loadPart_at he ?_;rw[hc])|with_reducible refine wpAny_loadPart_at hD ?_|(with_reducible refine wpAny_isSubtype_exc hD ?_;rw[hb])|with_reducible refine wpAny_isSubtype_exc hC ?_|wp_step)
 cases hz:(Value.ref C :: bm).contains (.ref D)<;>(rw[hz]at hq;wp_walk;exact hq)
end
section
variable {X:Cx}{pins:List (Addr × Obj)}{σ:St}{H:Hp}{s:Shared}
theorem E4 {M:Model}{A:Around}{E:Value->Shared->Prop}{i:Nat}{n:Str}{pos:Pos}{Q:Unit->Shared->Prop}(I:Inv X pins σ H s)(hN:X.N.Nodup)(hi:X.N[i]? = some n)(hk:X.env.scope.names.lookup n=some .local)
  (h:∀ s',Inv X pins (σ.set i none) H s'->Q () s'):wpAny M A (do bindName X.env n .none;unbindBehindTheSuite X.env n pos) Q E s:=by
 obtain⟨m,hn,hl⟩:=id I.loc
 have Ja:(X.env.scope.kind == .class || (X.env.scope.kind == .module && X.env.locals != X.env.globals))=false:=by rw[I.ok.kind];rfl
 have hiσ:i < σ.length:=by rw[I.len];exact(List.getElem?_eq_some_iff.mp hi).1
 have B':=I.B'
 obtain⟨oL,_,_,hoL,_⟩:=id hn
 refine wpAny_nameGoes_keeps hk hn Ja λ h' v Py hs=>?_
 have tracked:jG X.prog X.w H h':=λ b ob e=>by
  refine(I.aQ b ob e).lj (λ c w' hc q=>(hs.2 c ?_).trans q) (λ _ q=>q) λ _ _ q=>q
  rintro rfl
  rcases hc with rfl|hc
  ·rw[I.free]at e;cases e
  ·rw[I.free]at hc;cases hc
 refine h _ ⟨I.ok,I.os,I.bare,⟨λ b o e n hb hx=>?_,λ b o e n hb hx=>?_,I.base.free,λ b o e hx=>?_,I.base.jC,I.base.iF,I.base.ph⟩,⟨_,Py,λ j y v' e1 e2 e3=>?_⟩,λ y c e=>?_,I.free,I.ij,λ p hp=>?_,tracked,by simpa using I.len⟩
 ·exact(hs.2 b (Nat.ne_of_lt (Nat.lt_of_lt_of_le (Heap.lt_size e) I.ok.above))).trans (I.base.keep b o e n hb hx)
 ·obtain⟨sl,e1⟩:=I.base.slot b o e n hb hx
  exact⟨sl,(hs.2 b (Nat.ne_of_lt (Nat.lt_of_lt_of_le (Heap.lt_size e) I.ok.above))).trans e1⟩
 ·obtain⟨o',e1⟩:=I.base.there b o e hx
  exact⟨o',(hs.2 b (Nat.ne_of_lt (Nat.lt_of_lt_of_le (Heap.lt_size e) I.ok.above))).trans e1⟩
 ·by_cases hj:j=i
  ·subst hj
   rw[List.getElem?_set_self hiσ]at e2
   cases e2
  ·rw[List.getElem?_set_ne (Ne.symm hj)]at e2
   obtain⟨u',r',q⟩:=hl j y v' e1 e2 e3
   refine⟨u',r',?_⟩
   rcases q with⟨k,e⟩|⟨k,c,e,z⟩
   ·refine .inl ⟨k,?_⟩
    have:y≠n:=λ e=>hj (pO hN e1 (e ▸ hi))
    simp[this,e]
   ·exact .inr ⟨k,c,e,z.sameBut hs (B' y c e)⟩
 ·obtain⟨w',z⟩:=I.cell y c e
  exact⟨w',z.sameBut hs (B' y c e)⟩
 ·obtain⟨e,n,ne,nf,d⟩:=I.pin p hp
  exact⟨(hs.2 p.1 ne).trans e,n,ne,nf,d⟩
abbrev Cx.kX (X:Cx)(xe:Value->Shared->Prop)(pn:List (Addr × Obj)):Cx:={ X with xe:=xe,pn:=pn }
abbrev Cx.kY (X:Cx)(e:Addr):Cx:={ X with A:=X.A.mark (some (.ref e)),calm:=false,xe:=λ _ _=>False }
theorem Inv.kX {xe:Value->Shared->Prop}(I:Inv X pins σ H s):Inv (X.kX xe (X.pn++pins)) [] σ H s:=
 ⟨⟨I.ok.mod,I.ok.kind,I.ok.glob,I.ok.blt,I.ok.above,I.ok.inj,I.ok.has,I.ok.Gq,I.ok.hd,I.ok.frames,I.ok.GO,I.ok.Mn,I.ok.bs,I.ok.xA,I.ok.uB,I.ok.uR,I.ok.lP,I.ok.CK⟩,I.os,I.bare,I.base,I.loc,I.cell,I.free,I.ij,λ p hp=>I.pin p (by simpa using hp),I.aQ,I.len⟩
theorem Inv.uz {xe:Value->Shared->Prop}{uv:List (Addr × Obj)}(I:Inv (X.kX xe (X.pn++pins)) uv σ H s):Inv X pins σ H s:=
 ⟨⟨I.ok.mod,I.ok.kind,I.ok.glob,I.ok.blt,I.ok.above,I.ok.inj,I.ok.has,I.ok.Gq,I.ok.hd,I.ok.frames,I.ok.GO,I.ok.Mn,I.ok.bs,I.ok.xA,I.ok.uB,I.ok.uR,I.ok.lP,I.ok.CK⟩,I.os,I.bare,I.base,I.loc,I.cell,I.free,I.ij,λ p hp=>I.pin p (List.mem_append_left _ hp),I.aQ,I.len⟩
theorem Inv.kY {e:Addr}(I:Inv X pins σ H s):Inv (X.kY e) pins σ H s:=
 ⟨⟨I.ok.mod,I.ok.kind,I.ok.glob,I.ok.blt,I.ok.above,I.ok.inj,I.ok.has,I.ok.Gq,(λ z=>nomatch z),I.ok.frames,I.ok.GO,I.ok.Mn,I.ok.bs,I.ok.xA,I.ok.uB,I.ok.uR,I.ok.lP,I.ok.CK⟩,I.os,I.bare,I.base,I.loc,I.cell,I.free,I.ij,I.pin,I.aQ,I.len⟩
theorem Inv.KW {e:Addr}(hh:X.calm=true->X.A.handled=none)(I:Inv (X.kY e) pins σ H s):Inv X pins σ H s:=
 ⟨⟨I.ok.mod,I.ok.kind,I.ok.glob,I.ok.blt,I.ok.above,I.ok.inj,I.ok.has,I.ok.Gq,hh,I.ok.frames,I.ok.GO,I.ok.Mn,I.ok.bs,I.ok.xA,I.ok.uB,I.ok.uR,I.ok.lP,I.ok.CK⟩,I.os,I.bare,I.base,I.loc,I.cell,I.free,I.ij,I.pin,I.aQ,I.len⟩
end
def JZ (C e:Addr):Option Addr->HO
 | none=>Nh C e
 | some dx=>Qr C e dx
theorem Inv.Js {X:Cx}{pins:List (Addr × Obj)}{σ:St}{H:Hp}{s:Shared}{C e:Addr}{d:Option Addr}(I:Inv X pins σ H s)(he:H e=some (CS C e d)):Inv X pins σ (upd H e (JZ C e d)) s:=by
 obtain⟨⟨ox,vs,e1,e2,e3,e4⟩,_⟩:=I.aQ _ _ he
 have mu:JS (H e):=by rw[he];trivial
 have hn:notCls ox=true:=by unfold notCls;rw[e4]
 refine I.un (h':=s.heap) (t':=s.toks) (Un.write mu (.inl rfl) (λ _ _ _ z=>z) ⟨_,e1⟩) (I.aQ.write mu (.inl rfl) (λ _ _ _ z=>z) ⟨_,e1⟩ ?_)
 cases d with
 | none=>exact⟨⟨ox,e1,e2,hn,e3⟩,⟨_,e1⟩,λ h1 h2 ⟨ox,z,r⟩ k=>⟨ox,k ox z,r⟩⟩
 | some dx=>exact⟨⟨ox,e1,e2,hn,e3⟩,⟨_,e1⟩,λ h1 h2 ⟨ox,z,r⟩ k=>⟨ox,k ox z,r⟩⟩
def Gb (i:Nat)(D:Ends):Ends where
 nx:=λ σ H=>D.nx (σ.set i none) H
 rt:=D.rt
 bk:=λ σ H=>D.bk (σ.set i none) H
 ct:=λ σ H=>D.ct (σ.set i none) H
def BX (K:PySem.W.Frag)(N i:Nat)(CC:Addr)(ts:TS)(D:Ends):XK:=λ ev oc H'=>∃ e C d,ev=.ref e/\oc=some C/\H' e=some (CS C e d)/\(∃ nm bm lU,hJ K C nm bm lU/\(Value.ref C :: bm).contains (.ref CC)=true)/\
 ∀ σ':St,σ'.length=N->ts (Gb i D) (σ'.set i (some (.ref e))) (upd H' e (JZ C e d))
def GV (K:PySem.W.Frag)(N i:Nat)(CC:Addr)(tb:XK->TS)(ts:TS):TS:=λ D σ H=>tb (BX K N i CC ts D) D σ H
theorem zX {X:Cx}{body nO:List Stmt}{b₀:Stmt}{xn n:Str}{np yv pos:Pos}{i:Nat}{CC:Addr}{nm:Str}{bm:List Value}{lU:Option Value}{tb:XK->TS}{ts:TS}
  (hN:X.N.Nodup) (xc:hJ X.K CC nm bm lU) (hm:X.mg xn=some (.ref CC)) (hg:Gl X xn)
  (hb:∀ xe pn E1,Lets (X.kX xe pn) E1->kA (X.kX xe pn) body (tb E1)) (hs:∀ e,kA (X.kY e) (b₀ :: nO) ts)
  (hi:X.N[i]? = some n:=by rfl) (hx:X.env.scope.names.lookup n=some .local:=by rfl) (vX:X.stack=X.env :: X.outer:=by rfl) (Bx:X.env.frame=some X.env.locals:=by rfl) (jm:(xn == ("__debug__":Str))=false:=by decide) :
  PS X (.Try body [.ExceptHandler (some (.Name xn np)) (some n) (b₀ :: nO) yv] [] [] pos) (GV X.K X.N.length i CC tb ts):=by
 intro pins s σ H D I h
 refine wpAny_Try_except ?_
 refine wpAny_mono (hb (λ ev s'=>∃ e C d σ' H',ev=.ref e/\Inv X pins σ' H' s'/\Lies C e d H' s'.heap/\BX X.K X.N.length i CC ts D ev (some C) H') (X.pn++pins) _ ?_ [] s σ H D I.kX h) (λ f s1 hf=>?_) ?_
 ·exact λ uv σ' H' s' e C d J x q=>⟨e,C,d,σ',H',rfl,J.uz,x,q⟩
 ·cases f with
  | next=>
   obtain⟨σ',H',J,q⟩:=hf
   exact wpAny_pure ⟨σ',H',J.uz,q⟩
  | brk=>obtain⟨σ',H',J,q⟩:=hf;exact⟨σ',H',J.uz,q⟩
  | cont=>obtain⟨σ',H',J,q⟩:=hf;exact⟨σ',H',J.uz,q⟩
  | ret u=>obtain⟨v,σ',H',J,r,q⟩:=hf;exact⟨v,σ',H',J.uz,r,q⟩
 ·rintro ev s1 ⟨e,C,d,σ1,H1,rfl,J,x,e',C',d',z1,z2,he,⟨Tr,T3,Pc,xC,EW⟩,q⟩
  cases z1
  cases z2
  obtain⟨ox,vs,o1,o2,o3,o4,o5⟩:=x.ex
  have F9:X.A.frames=some (X.env :: X.outer):=by rw[<-vX];exact J.ok.frames
  have hl:s1.heap.FunFrames X.base (X.env :: X.outer):=by rw[<-vX];exact J.stack
  refine w4 F9 hl Bx o1 o4 o5 λ h' W=>?_
  have W:Way (ub X.stack) e ox s1.heap h':=by rw[vX];exact W
  have J1:Inv X pins σ1 H1 { s1 with heap:=h' }:=J.call (ch:=[]) (g':=s1.gens) (d':=s1.drawn) (t':=s1.toks) (W.un x.Cz λ _ z=>z) (W.aQ J.oO x.Cz o1 o2 o3 J.aQ) J.bare λ _ z=>nomatch z
  obtain⟨Qs,p1,p2,p3⟩:=W.exc
  refine wpAny_handleBy_cons (codeAny_handlers_test ?_) (by intro z;cases z)
  refine kD (X:=X.kY e) J1.kY hg hm ?_ jm
  refine A9 J1.jl xC xc p1 o2 ?_
  rw[EW]
  refine codeAny_handlers_suite_as (yC p1 rfl p3 λ h2 k=>?_)
  have J2:Inv X pins σ1 H1 { s1 with heap:=h2 }:=J1.un (h':=h2) (t':=s1.toks) (Un.kept k) (J1.aQ.kept k)
  refine jN (J2.Js he) hN hi (.inl hx) (v:=.ref e) rfl (λ s3 J3=>?_) (.inr hx)
  refine wpAny_mono (hs e pins s3 _ _ (Gb i D) J3.kY (q σ1 J.len)) (λ f s4 hf=>?_) λ _ _ z=>z.elim
  have E5:∀ {σ':St}{H':Hp}{Q:Unit->Shared->Prop},Inv (X.kY e) pins σ' H' s4->(∀ s5,Inv X pins (σ'.set i none) H' s5->Q () s5)->wpAny (model X.prog X.w) X.A (do bindName X.env n .none;unbindBehindTheSuite X.env n yv) Q X.xe s4:=λ J4 k=>E4 (J4.KW J.ok.hd) hN hi hx k
  cases f with
  | next=>obtain⟨σ',H',J4,q4⟩:=hf;exact E5 J4 λ s5 J5=>⟨_,H',J5,q4⟩
  | brk=>obtain⟨σ',H',J4,q4⟩:=hf;exact E5 J4 λ s5 J5=>⟨_,H',J5,q4⟩
  | cont=>obtain⟨σ',H',J4,q4⟩:=hf;exact E5 J4 λ s5 J5=>⟨_,H',J5,q4⟩
  | ret u=>obtain⟨v,σ',H',J4,r,q4⟩:=hf;exact E5 J4 λ s5 J5=>⟨v,_,H',J5,r,q4⟩
end L2
namespace Mm
open PySem L2
def kQ (T:Tx)(E:XK):gI:=λ c _ _ H=>∀ e,H e=none->c.fs=[]->E (.ref e) (some (T.cl c.cls)) (upd H e (CS (T.cl c.cls) e none))
structure Ls (T:Tx)(X:Cx)(XE:gI):Prop where
 ex:∃ E,Lets X E/\∀ c ρ s H,XE c ρ s H->kQ T E c ρ s H
section
variable {T:Tx}{XE:gI}{X:Cx}{pos:Pos}
theorem JG:Ls T X yS:=⟨⟨E0,λ _ _ _ _ _ _ _ _ _ z=>z.elim,λ _ _ _ _ z=>z.elim⟩⟩
theorem uG {P:Program}{w:World}{K:PySem.W.Frag}{mg:Str->Option Value}{base:Heap}{N:List Str}{qual:Str}{scope:Scope}{f:Addr}{cd:Value}{A:Around}{outer:List Env}{s:Shared}{H:Hp}{E:XK}:Ls T (jE (nM P w) P w K mg base N qual scope f cd A outer s H E) (kQ T E):=⟨⟨E,EF,λ _ _ _ _ z=>z⟩⟩
theorem As {P:Program}{w:World}{K:PySem.W.Frag}{mg:Str->Option Value}{base:Heap}{N:List Str}{qual:Str}{scope:Scope}{f:Addr}{cd:Value}{A:Around}{outer:List Env}{s:Shared}{H:Hp}{E:XK}:PassesOwn (model P w) (A.deeper (PyProof.Rows.envOfC qual scope s.heap.objs.size f cd)) (PyProof.Rows.envOfC qual scope s.heap.objs.size f cd) (jE (nM P w) P w K mg base N qual scope f cd A outer s H E).xe:=PassesOwn.leaving
def yO (T:Tx)(n:Nat)(F:List AV->S->R AV):Sp:=λ vs H Q E=>vs.length=n/\∃ ρ s args,SR T ρ s H/\aJ T ρ H args vs/\Out T (kQ T E) (rV T) ρ H (F args s) Q
theorem tw {P:Program}{w:World}{mg:Str->Option Value}{base:Heap}{x qual:Str}{st:Stmt}{f:Addr}{fd:FuncData}{N ps:List Str}{k:Nat}{body:Ms}(F:Cu T.K x qual st f fd)(S:iy N ps (ax st))
  (hb:∀ (dD:Value) (A:Around) (outer:List Env) (s:Shared) (H:Hp) (E:XK),cX k (A.deeper (PyProof.Rows.envOfC qual (ax st) s.heap.objs.size f dD))->kA (jE (nM P w) P w T.K mg base N qual (ax st) f dD A outer s H E) (bL st) (tS T (kQ T E) body)) :
  gA P w T.K mg base (nM P w) (k+1) f fd ps (yO T ps.length (eB N.length body)):=by
 obtain⟨oc,od,kV,doc,pm,an,dD,ct,qv,rfl,lk,xj⟩:=F.ex
 refine Gg lk xj S (λ vs H Q E h=>h.1) λ A outer s H vs Q E hr ⟨hl,ρ,om,args,sr,va,ho⟩=>?_
 refine⟨_,hb dD A outer s H E hr,ρ,_,om,sr,uS N va,?_⟩
 unfold eB at ho
 cases e:body (args.map some++List.replicate (N.length - args.length) none) om with
 | nx e1 s1=>simp only[e]at ho;exact λ ρ2 H2 σ2 u sr er=>ho ρ2 H2 .az u sr (mT (T:=T) (ρ:=ρ2) (H:=H2))
 | rt v s1=>simp only[e]at ho;exact ho
 | ex c s1=>simp only[e]at ho;exact ho
 | bk v s1=>simp only[e]at ho;exact ho.elim
 | ct v s1=>simp only[e]at ho;exact ho.elim
 | bad=>simp only[e]at ho;exact ho.elim
theorem Out.xe {α β:Type}{XE':gI}{rl:Rl α β}{ρ:List Addr}{H:Hp}{r:R α}{Q:β->Hp->Prop}(h:Out T XE rl ρ H r Q)(k:∀ c ρ s H,XE c ρ s H->XE' c ρ s H):Out T XE' rl ρ H r Q:=by
 cases r with
 | ok v s=>exact h
 | ex c s=>exact λ ρ' H' u sr=>k _ _ _ _ (h ρ' H' u sr)
 | bad=>exact h
theorem Cb {E:XK}{n:Nat}{F:List AV->S->R AV}{r:dY}{σ:St}{H:Hp}{Q:VK}(k:∀ c ρ s H,XE c ρ s H->kQ T E c ρ s H)(h:tE T XE (aD n F r) σ H Q):zx (yO T n F) [] E (tP T XE r) σ H Q:=by
 obtain⟨ρ,env,s,hs,he,ho⟩:=h
 refine step hs he ho λ vs s1 ρ1 H1 xs _ u1 aL cb aI ay=>?_
 obtain⟨hl,ay⟩:=ay.a7
 have aI:aJ T ρ1 H1 vs xs:=aI
 rw[List.append_nil]
 exact⟨by rw[<-aI.length];exact hl,ρ1,s1,vs,aL,aI,ay.xe k⟩
structure gJ (P:Program)(w:World)(T:Tx)(mg:Str->Option Value)(base:Heap)(nm:Str)(n k:Nat)(Fn:List AV->S->R AV):Prop where
 ex:∃ f fd ps,gA P w T.K mg base (nM P w) k f fd ps (yO T n Fn)/\Binds T.K fd ps []/\mg nm=some (.ref f)/\PySem.W.keepIn T.K (.ref f)=true
theorem Lr {k n:Nat}{Fn:List AV->S->R AV}{x:Str}{p:Pos}{e:Expr}{es:List Expr}{r:dY}(h:gJ X.prog X.w T X.mg X.base x n k Fn)(hr:cX k X.A)(ha:PA X (e :: es) (tP T XE r)) (ls:Ls T X XE)(hK:X.K=T.K:=by rfl)(hg:Gl X x:=by rfl)(jm:(x == ("__debug__":Str))=false:=by decide) (he:starEach (e :: es) X.env=(false,eval e X.env) :: starEach es X.env:=by rfl) (fe:(backTo pos (starEach es X.env)).any (·.1)=false:=by rfl) :
  PE X (.Call (.Name x p) (e :: es) [] pos) (tE T XE (aD n Fn r)):=by
 obtain⟨f,fd,ps,G,hb,hm,hk⟩:=h.ex
 obtain⟨E,l,hE⟩:=ls.ex
 exact PE.imp (DS (E:=E) (by rw[hK];exact G) hr hg hm (by rw[hK];exact hk) (by rw[hK];exact hb) .nil l.passes ha jm he fe) λ _ _ _ h=>Cb hE h
theorem Iy {k:Nat}{Fn:List AV->S->R AV}{x:Str}{p:Pos}(h:gJ X.prog X.w T X.mg X.base x 0 k Fn)(hr:cX k X.A)(ls:Ls T X XE)(hK:X.K=T.K:=by rfl)(hg:Gl X x:=by rfl)(jm:(x == ("__debug__":Str))=false:=by decide) :
  PE X (.Call (.Name x p) [] [] pos) (tE T XE (aD 0 Fn ag)):=by
 obtain⟨f,fd,ps,G,hb,hm,hk⟩:=h.ex
 obtain⟨E,l,hE⟩:=ls.ex
 exact PE.imp (An (E:=E) (by rw[hK];exact G) hr hg hm (by rw[hK];exact hk) (by rw[hK];exact hb) .nil l.passes jm) λ σ H Q h=>by
  obtain⟨ρ,env,s,hs,he,ho⟩:=h
  exact⟨rfl,ρ,s,[],hs,.nil,Out.xe (show Out T XE (rV T) ρ H (Fn [] s) Q from ho) hE⟩
def FN (c:Nat)(r:dY):Ms:=λ env s=>(r env s).dI λ vs s1=>if vs.length<=1000 then .ex ⟨c,[]⟩ s1 else .bad
theorem AS {c:Nat}{nm:Str}{bm:List Value}{xn:Str}{np br:Pos}{a:Expr}{as:List Expr}{r:dY}(x:hJ T.K (T.cl c) nm bm none) (hk:PySem.W.keepIn T.K (.ref (T.cl c))=true) (hm:X.mg xn=some (.ref (T.cl c))) (ls:Ls T X XE)(ha:PA X (a :: as) (tP T XE r)) (hK:X.K=T.K:=by rfl)(hc:X.calm=true:=by rfl)(hg:Gl X xn:=by rfl)
  (jm:(xn == ("__debug__":Str))=false:=by decide) (he:starEach (a :: as) X.env=(false,eval a X.env) :: starEach as X.env:=by rfl) (fe:(backTo br (starEach as X.env)).any (·.1)=false:=by rfl) :
  PS X (.Raise (some (.Call (.Name xn np) (a :: as) [] br)) none pos) (tS T XE (FN c r)):=by
 obtain⟨E,l,hE⟩:=ls.ex
 refine PS.imp (zY (E:=E) (by rw[hK];exact x) (by rw[hK];exact hk) hg hm hc l ha jm he fe) λ D σ H ⟨ρ,env,s,hs,he,ho⟩=>fm hs he ho λ vs s1 ρ1 H1 xs _ u1 aL cb aI ay=>?_
 have aI:aJ T ρ1 H1 vs xs:=aI
 by_cases hl:vs.length<=1000
 ·rw[if_pos hl]at ay
  refine⟨by rw[<-aI.length,sizeLine_eq];omega,λ e hn=>hE _ _ _ _ (ay ρ1 H1 .refl aL) e hn rfl⟩
 ·rw[if_neg hl]at ay
  exact ay.elim
def Ga (i:Nat):RS->RS
 | .nx e s=>.nx (e.set i none) s
 | .bk e s=>.bk (e.set i none) s
 | .ct e s=>.ct (e.set i none) s
 | .rt v s=>.rt v s
 | _=>.bad
def mX (n i:Nat)(sub:Nat->Bool)(b h:Ms):Ms:=λ env s=>match b env s with
 | .ex c s1=>if sub c.cls=true then Ga i (h ((List.replicate n none).set i (some (.ref s1.length))) (s1++[.exc c.cls])) else .bad
 | r=>r
theorem ER.unset {ρ:List Addr}{H:Hp}{env:En}{σ:St}(h:ER T ρ H env σ)(i:Nat):ER T ρ H (env.set i none) (σ.set i none):=by
 refine⟨by simp[h.len],λ j w e=>?_⟩
 by_cases qk:i=j
 ·subst qk
  rw[List.getElem?_set]at e
  simp at e
 ·rw[List.getElem?_set_ne qk]at e ⊢
  exact h.get j w e
theorem wA (H:Hp)(e:Addr)(a b:HO):upd (upd H e a) e b=upd H e b:=by
 funext c
 by_cases hc:c=e
 ·subst hc;rw[av,av]
 ·rw[ah hc,ah hc,ah hc]
theorem HP {body nO:List Stmt}{b₀:Stmt}{xn n:Str}{np yv:Pos}{i N:Nat}{CC:Addr}{nm:Str}{bm:List Value}{lU:Option Value}{sub:Nat->Bool}{b h:Ms}
  (hN:X.N.Nodup) (xc:hJ T.K CC nm bm lU) (hm:X.mg xn=some (.ref CC)) (EW:∀ c,sub c=true->∃ nm bm lU,hJ T.K (T.cl c) nm bm lU/\(Value.ref (T.cl c) :: bm).contains (.ref CC)=true)
  (hb:∀ xe pn XE1,Ls T (X.kX xe pn) XE1->kA (X.kX xe pn) body (tS T XE1 b)) (hs:∀ e,kA (X.kY e) (b₀ :: nO) (tS T yS h)) (hK:X.K=T.K:=by rfl) (hg:Gl X xn:=by rfl)
  (hi:X.N[i]? = some n:=by rfl) (hx:X.env.scope.names.lookup n=some .local:=by rfl) (hn:X.N.length=N:=by rfl) (vX:X.stack=X.env :: X.outer:=by rfl) (Bx:X.env.frame=some X.env.locals:=by rfl) (jm:(xn == ("__debug__":Str))=false:=by decide) :
  PS X (.Try body [.ExceptHandler (some (.Name xn np)) (some n) (b₀ :: nO) yv] [] [] pos) (tS T XE (mX N i sub b h)):=by
 refine PS.imp (zX (tb:=λ E1=>tS T (kQ T E1) b) hN (by rw[hK];exact xc) hm hg (λ xe pn E1 l=>hb xe pn _ ⟨⟨E1,l,λ _ _ _ _ z=>z⟩⟩) hs hi hx vX Bx jm) λ D σ H ⟨ρ,env,s,sr,er,ho⟩=>?_
 refine⟨ρ,env,s,sr,er,?_⟩
 unfold mX at ho
 cases eb:b env s with
 | nx e s1=>simp only[eb]at ho;exact ho
 | rt v s1=>simp only[eb]at ho;exact ho
 | bk e s1=>simp only[eb]at ho;exact ho
 | ct e s1=>simp only[eb]at ho;exact ho
 | bad=>simp only[eb]at ho;exact ho
 | ex c s1=>
  simp only[eb]at ho
  intro ρ' H' u je e EY TR
  by_cases hc:sub c.cls=true
  ·rw[if_pos hc]at ho
   refine⟨e,T.cl c.cls,none,rfl,rfl,av ..,by rw[hK];exact EW _ hc,λ σ' hl=>?_⟩
   rw[wA]
   have u2:Up ρ H (ρ'++[e]) (upd H' e (JZ (T.cl c.cls) e none)):=(u.trans (je.d_ EY)).add (u.live e EY)
   have fA:SR T (ρ'++[e]) (s1++[.exc c.cls]) (upd H' e (JZ (T.cl c.cls) e none)):=(je.new EY).add (je.out EY) (av ..)
   have lQ:ER T (ρ'++[e]) (upd H' e (JZ (T.cl c.cls) e none)) ((List.replicate N none).set i (some (.ref s1.length))) (σ'.set i (some (.ref e))):=by
    refine ER.set ⟨by rw[List.length_replicate,<-hn];exact hl.symm,λ j v ej=>?_⟩ (lh ?_)
    ·rw[List.getElem?_replicate]at ej
     split at ej<;>cases ej
    ·rw[List.getElem?_append_right (by rw[je.len];omega),je.len];simp
   refine⟨_,_,_,fA,lQ,?_⟩
   have ho:=fi.up u2 ho
   cases eh:h ((List.replicate N none).set i (some (.ref s1.length))) (s1++[.exc c.cls]) with
   | nx e1 s2=>rw[eh]at ho;exact λ ρ3 H3 σ3 u3 nQ uT=>ho ρ3 H3 _ u3 nQ (uT.unset i)
   | bk e1 s2=>rw[eh]at ho;exact λ ρ3 H3 σ3 u3 nQ uT=>ho ρ3 H3 _ u3 nQ (uT.unset i)
   | ct e1 s2=>rw[eh]at ho;exact λ ρ3 H3 σ3 u3 nQ uT=>ho ρ3 H3 _ u3 nQ (uT.unset i)
   | rt v s2=>rw[eh]at ho;exact ho
   | ex c2 s2=>rw[eh]at ho;exact ho.elim
   | bad=>rw[eh]at ho;exact ho.elim
  ·rw[if_neg hc]at ho
   exact ho.elim
end
end Mm
namespace L2
open PySem PySem.Spec PySem.W PyProof.Rows
def Kq (K:PySem.W.Frag):List V->Hp->VK->Prop:=λ xs H Q=>∃ (e C tp:Addr) (cs:List Addr) (b:Bool),xs=[.ref e,.ref tp]/\NW H e C/\FD K C/\H tp=some (.tup (cs.map V.ref))/\kitAny K (.ref C) (cs.map Value.ref)=some b/\Q (.bl b) H
theorem qL:∀ {cs:List Addr}{us:List Value},Vals (cs.map V.ref) us->us=cs.map Value.ref
 | [],_,r=>by cases r;rfl
 | c :: cs,_,r=>by
  cases r with
  | cons r1 r2=>
   cases (show _=Value.ref c from r1)
   rw[qL r2];rfl
theorem yI {X:Cx}:dJ X (.builtin "isinstance") (Kq X.K):=by
 rintro pins s σ H xs us Q I rv ⟨e,C,tp,cs,b,rfl,hx,g,ht,kb,q⟩
 obtain⟨ox,od,J⟩:=hx.inst I
 obtain⟨u,w',rfl,r1,r2⟩:=vals2 rv
 cases (show _=Value.ref e from r1)
 cases (show _=Value.ref tp from r2)
 obtain⟨z,ws,r3,ot,o1,o2,n,o3⟩:=I.aQ _ _ ht
 obtain⟨oc,odd,RO,qv⟩:=ot
 cases (show oc=_ from o2)
 cases (show RO=_ from o3)
 cases qL r3
 exact PySem.W.kia_tup (uL g) I.jl ⟨ox,od,J⟩ o1 kb (λ z=>nomatch z) λ tk=>⟨.bl b,H,I.tok _,rfl,q⟩
def tK (vs:List V):TA:=λ _ H Q=>Q vs H
section
variable {X:Cx}{e:Expr}{es:List Expr}{v:V}{vs:List V}
theorem wN:PA X [] (tK []):=λ pos pins s σ H Q I h=>fC pos pins s σ H Q I h
theorem Ar (h1:PE X e (tC v)) (h2:PA X es (tK vs)) (hs:starEach (e :: es) X.env=(false,eval e X.env) :: starEach es X.env:=by rfl):PA X (e :: es) (tK (v :: vs)):=λ pos pins s σ H Q I h=>cf h1 h2 hs pos pins s σ H Q I h
end
end L2
namespace Mm
open PySem L2
section
variable {T:Tx}{XE:gI}{X:Cx}{pos:Pos}
def Qe (v:V)(c:Value):Prop:=match v with|.ty n=>c=Value.type n|.ref a=>c=Value.ref a|_=>False
def bH (ans:Nat->Option Bool)(v:AV)(s:S):R AV:=match v with
 | .ref i=>match s[i]? with
  | some (.exc c)=>need (ans c) λ b=>.ok (.bl b) s
  | _=>.bad
 | _=>.bad
theorem xf {ans:Nat->Option Bool}{ρ:List Addr}{H:Hp}{s:S}{v:AV}{x:V}{Q:VK}(sr:SR T ρ s H)(va:VR T ρ H v x)(ho:Out T XE (rV T) ρ H (bH ans v s) Q) :
  ∃ e c b,x=.ref e/\H e=some (Nh (T.cl c) e)/\ans c=some b/\Out T XE (rV T) ρ H (.ok (.bl b) s) Q:=by
 unfold bH at ho
 split at ho
 ·rename_i i
  obtain⟨a,e1,rfl⟩:=va.fN
  split at ho
  ·rename_i c ec
   obtain⟨b,eb,ho⟩:=ho.ao
   obtain⟨a',e2,h1⟩:=sr.obj _ _ ec
   rw[e1]at e2
   cases e2
   exact⟨a,c,b,rfl,h1,eb,ho⟩
  ·exact ho.elim
 ·exact ho.elim
theorem A7 {ans:Nat->Option Bool}{p:Pos}{e cl:Expr}{m:Ev}{v:V}{c:Value}(hv:PE X cl (tC v)) (R_:Qe v c)(Jc:∀ C b,ans C=some b->FD T.K (T.cl C)/\PySem.W.kitOne T.K (.ref (T.cl C)) c=some b) (hm:X.mg "isinstance"=none)(ha:PE X e (tE T XE m)) (hK:X.K=T.K:=by rfl)(hg:Gl X "isinstance":=by rfl)
  (he:starEach [e,cl] X.env=(false,eval e X.env) :: starEach [cl] X.env:=by rfl) (By:starEach [cl] X.env=(false,eval cl X.env) :: starEach [] X.env:=by rfl) (fe:(backTo pos (starEach [cl] X.env)).any (·.1)=false:=by rfl) :
  PE X (.Call (.Name "isinstance" p) [e,cl] [] pos) (tE T XE (cA (bH ans) m)):=
 PE.imp (eM Cc hg hm Ro.boot_isinstance (cf ha (cf hv fC By) he) (by decide) (by decide) he fe) λ σ H Q ⟨ρ,env,s,hs,he,ho⟩=>
  step hs he ho λ w s1 ρ1 H1 x _ u1 aL cb aI ay=>by
   obtain⟨a,C,b,rfl,h1,h2,h3⟩:=xf aL aI ay
   obtain⟨k1,k2⟩:=Jc C b h2
   exact⟨a,T.cl C,v,c,b,rfl,R_,.inl h1,by rw[hK];exact k1,by rw[hK];exact k2,h3.aK aL dm⟩
theorem Eu {ans:Nat->Option Bool}{p p2:Pos}{e:Expr}{cls:List Expr}{x1:Nat}{m:Ev}{cs:List Addr}(hv:PA X cls (tK (cs.map V.ref))) (hl:cs.length<=1000)(Jc:∀ C b,ans C=some b->FD T.K (T.cl C)/\PySem.W.kitAny T.K (.ref (T.cl C)) (cs.map Value.ref)=some b) (hm:X.mg "isinstance"=none)(ha:PE X e (tE T XE m)) (hK:X.K=T.K:=by rfl)(hg:Gl X "isinstance":=by rfl)
  (he:starEach [e,.Tuple cls x1 p2] X.env=(false,eval e X.env) :: starEach [.Tuple cls x1 p2] X.env:=by rfl) (By:starEach [.Tuple cls x1 p2] X.env=(false,eval (.Tuple cls x1 p2) X.env) :: starEach [] X.env:=by rfl) (fe:(backTo pos (starEach [.Tuple cls x1 p2] X.env)).any (·.1)=false:=by rfl) :
  PE X (.Call (.Name "isinstance" p) [e,.Tuple cls x1 p2] [] pos) (tE T XE (cA (bH ans) m)):=
 PE.imp (eM yI hg hm Ro.boot_isinstance (cf ha (cf (Ae hv) fC By) he) (by decide) (by decide) he fe) λ σ H Q ⟨ρ,env,s,hs,he,ho⟩=>
  step hs he ho λ w s1 ρ1 H1 x _ u1 aL cb aI ay=>by
   obtain⟨a,C,b,rfl,h1,h2,h3⟩:=xf aL aI ay
   obtain⟨k1,k2⟩:=Jc C b h2
   refine⟨by rw[List.length_map,sizeLine_eq];omega,λ tp hn=>⟨a,T.cl C,tp,cs,b,rfl,.inl ?_,by rw[hK];exact k1,av ..,by rw[hK];exact k2,?_⟩⟩
   ·rw[ah (aF h1 hn)];exact h1
   ·exact(Out.up (aL.d_ hn) h3).aK (aL.new hn) dm
end
end Mm
namespace Mm
open PySem L2 PySem.W
def NZ:List Str:=["RoyalError","BadFraction","Taken","NoName","TooMuch","NoRate","NoneLeft","Endless","BadRow"]
def gP (i:Nat):Str:=NZ.getD i ""
def y_ (T:Tx)(i:Nat):List Value:=if i=0 then oY else .ref (T.cl 0) :: oY
structure Xs (T:Tx)(mg:Str->Option Value):Prop where
 c:∀ i,i < 9->∃ lU,hJ T.K (T.cl i) (gP i) (y_ T i) lU/\(i < 7->lU=none)
 is:∀ i,i < 9->FD T.K (T.cl i)
 kp:∀ i,i < 9->PySem.W.keepIn T.K (.ref (T.cl i))=true
 gl:∀ i,i < 9->mg (gP i)=some (.ref (T.cl i))
theorem y9:∀ i,i < 9->∀ j,j < 9->gP i=gP j->i=j:=by decide +kernel
theorem FE {K:PySem.W.Frag}{C:Addr}{n n':Str}{b b':List Value}{i i':Option Value}(x:hJ K C n b i)(y:hJ K C n' b' i'):n=n':=by
 obtain⟨cd,h1,_,_,h2⟩:=x.cls
 obtain⟨TZ,h3,_,_,h4⟩:=y.cls
 rw[h1]at h3
 cases h3
 exact h2.symm.trans h4
section
variable {T:Tx}{XE:gI}{X:Cx}{pos:Pos}{mg:Str->Option Value}
theorem Xs.inj (x:Xs T mg){i j:Nat}(hi:i < 9)(hj:j < 9)(e:T.cl i=T.cl j):i=j:=by
 obtain⟨_,a,_⟩:=x.c i hi
 obtain⟨_,b,_⟩:=x.c j hj
 rw[e]at a
 exact y9 i hi j hj (FE a b)
def ai (i c:Nat):Bool:=c == i || i == 0
theorem Xs.has (x:Xs T mg){c i:Nat}(hc:c < 9)(hi:i < 9):(Value.ref (T.cl c) :: y_ T c).contains (.ref (T.cl i))=ai i c:=by
 have nb:oY.contains (.ref (T.cl i))=false:=by simp[List.contains_cons]
 have eqv:∀ a b:Addr,(Value.ref a == Value.ref b)=decide (a=b):=λ a b=>by
  by_cases h:a=b
  ·subst h;simp
  ·simp[h]
 unfold ai y_
 rw[List.contains_cons,eqv]
 by_cases h:c=i
 ·subst h;simp
 ·have h1:T.cl i≠T.cl c:=λ e=>h (x.inj hc hi e.symm)
  by_cases h0:c=0
  ·subst h0
   have:¬ i=0:=λ e=>h e.symm
   simp[h1,nb,h,this]
  ·rw[if_neg h0,List.contains_cons,eqv,nb]
   by_cases PH:i=0
   ·subst PH;simp
   ·have h2:T.cl i≠T.cl 0:=λ e=>PH (x.inj hi (by decide) e)
    simp[h1,h2,h,PH]
theorem Xs.P1 (x:Xs T mg)(c:Nat):(Value.ref (T.cl c) :: y_ T c).contains (.type "ValueError")=true:=by
 have nb:oY.contains (.type "ValueError")=true:=by decide +kernel
 unfold y_
 by_cases h0:c=0
 ·rw[if_pos h0,List.contains_cons,nb,Bool.or_true]
 ·rw[if_neg h0,List.contains_cons,List.contains_cons,nb,Bool.or_true,Bool.or_true]
theorem Xs.LA (x:Xs T mg){c i:Nat}(hc:c < 9)(hi:i < 9):kitOne T.K (.ref (T.cl c)) (.ref (T.cl i))=some (ai i c):=by
 obtain⟨_,a,_⟩:=x.c c hc
 obtain⟨_,b,_⟩:=x.c i hi
 rw[a.LA _ (.inl ⟨_,_,_,_,rfl,b⟩),x.has hc hi]
theorem Xs.O6 (x:Xs T mg){c:Nat}(hc:c < 9):kitOne T.K (.ref (T.cl c)) (.type "ValueError")=some true:=by
 obtain⟨_,a,_⟩:=x.c c hc
 rw[a.LA _ (.inr ⟨_,rfl,by decide +kernel⟩),x.P1]
theorem Xs.Lz (x:Xs T mg){c:Nat}(hc:c < 9):∀ {is:List Nat},(∀ i∈is,i < 9)->kitAny T.K (.ref (T.cl c)) ((is.map T.cl).map Value.ref)=some (is.any λ i=>ai i c)
 | [],_=>rfl
 | i :: is,h=>by
  show(match kitOne T.K (.ref (T.cl c)) (.ref (T.cl i)) with
   | some true=>some true
   | some false=>kitAny T.K (.ref (T.cl c)) ((is.map T.cl).map Value.ref)
   | none=>none)=_
  rw[x.LA hc (h i (.head _)),List.any_cons]
  cases ai i c with
  | true=>rfl
  | false=>rw[Bool.false_or];exact Xs.Lz x hc λ j hj=>h j (.tail _ hj)
def jy (i c:Nat):Option Bool:=if c < 9 then some (ai i c) else none
def yL (c:Nat):Option Bool:=if c < 9 then some true else none
def qG (is:List Nat)(c:Nat):Option Bool:=if c < 9 then some (is.any λ i=>ai i c) else none
theorem La {c:Nat}{np br:Pos}{a:Expr}{as:List Expr}{r:dY}(x:Xs T X.mg)(hc:c < 7)(ls:Ls T X XE)(ha:PA X (a :: as) (tP T XE r)) (hK:X.K=T.K:=by rfl)(LY:X.calm=true:=by rfl)(hg:Gl X (gP c):=by rfl)
  (jm:(gP c == ("__debug__":Str))=false:=by decide +kernel) (he:starEach (a :: as) X.env=(false,eval a X.env) :: starEach as X.env:=by rfl) (fe:(backTo br (starEach as X.env)).any (·.1)=false:=by rfl) :
  PS X (.Raise (some (.Call (.Name (gP c) np) (a :: as) [] br)) none pos) (tS T XE (FN c r)):=by
 obtain⟨lU,h1,h2⟩:=x.c c (by omega)
 cases h2 hc
 exact AS h1 (x.kp c (by omega)) (x.gl c (by omega)) ls ha hK LY hg jm he fe
theorem K' {body nO:List Stmt}{b₀:Stmt}{n:Str}{np yv:Pos}{i ci N:Nat}{b h:Ms}(x:Xs T X.mg)(PX:ci < 9)(hN:X.N.Nodup)
  (hb:∀ xe pn XE1,Ls T (X.kX xe pn) XE1->kA (X.kX xe pn) body (tS T XE1 b)) (hs:∀ e,kA (X.kY e) (b₀ :: nO) (tS T yS h)) (hK:X.K=T.K:=by rfl) (hg:Gl X (gP ci):=by rfl)
  (hi:X.N[i]? = some n:=by rfl) (hx:X.env.scope.names.lookup n=some .local:=by rfl) (hn:X.N.length=N:=by rfl) (vX:X.stack=X.env :: X.outer:=by rfl) (Bx:X.env.frame=some X.env.locals:=by rfl) (jm:(gP ci == ("__debug__":Str))=false:=by decide +kernel) :
  PS X (.Try body [.ExceptHandler (some (.Name (gP ci) np)) (some n) (b₀ :: nO) yv] [] [] pos) (tS T XE (mX N i (λ c=>decide (c < 9) && ai ci c) b h)):=by
 obtain⟨lU,h1,_⟩:=x.c ci PX
 refine HP hN h1 (x.gl ci PX) (λ c hc=>?_) hb hs hK hg hi hx hn vX Bx jm
 rw[Bool.and_eq_true,decide_eq_true_iff]at hc
 obtain⟨Pc,h2,_⟩:=x.c c hc.1
 exact⟨_,_,_,h2,(x.has hc.1 PX).trans hc.2⟩
theorem Io {i:Nat}{p p2:Pos}{e:Expr}{m:Ev}(x:Xs T X.mg)(hi:i < 9)(hm:X.mg "isinstance"=none)(ha:PE X e (tE T XE m)) (hK:X.K=T.K:=by rfl)(hg:Gl X "isinstance":=by rfl)(IZ:Gl X (gP i):=by rfl) (jm:(gP i == ("__debug__":Str))=false:=by decide +kernel)
  (he:starEach [e,.Name (gP i) p2] X.env=(false,eval e X.env) :: starEach [.Name (gP i) p2] X.env:=by rfl) (By:starEach [.Name (gP i) p2] X.env=(false,eval (.Name (gP i) p2) X.env) :: starEach [] X.env:=by rfl) (fe:(backTo pos (starEach [.Name (gP i) p2] X.env)).any (·.1)=false:=by rfl) :
  PE X (.Call (.Name "isinstance" p) [e,.Name (gP i) p2] [] pos) (tE T XE (cA (bH (jy i)) m)):=
 A7 (c:=.ref (T.cl i)) (sH (v:=.ref (T.cl i)) IZ (x.gl i hi) rfl jm) rfl (λ C b h=>by
  unfold jy at h
  split at h
  ·rename_i hc
   cases h
   exact⟨x.is C hc,x.LA hc hi⟩
  ·cases h) hm ha hK hg he By fe
theorem oH:bootBuiltins "ValueError"=some (.type "ValueError"):=by decide +kernel
theorem Im {p p2:Pos}{e:Expr}{m:Ev}(x:Xs T X.mg)(hm:X.mg "isinstance"=none)(Pz:X.mg "ValueError"=none)(ha:PE X e (tE T XE m)) (hK:X.K=T.K:=by rfl)(hg:Gl X "isinstance":=by rfl)(IZ:Gl X "ValueError":=by rfl)
  (he:starEach [e,.Name "ValueError" p2] X.env=(false,eval e X.env) :: starEach [.Name "ValueError" p2] X.env:=by rfl) (By:starEach [.Name "ValueError" p2] X.env=(false,eval (.Name "ValueError" p2) X.env) :: starEach [] X.env:=by rfl) (fe:(backTo pos (starEach [.Name "ValueError" p2] X.env)).any (·.1)=false:=by rfl) :
  PE X (.Call (.Name "isinstance" p) [e,.Name "ValueError" p2] [] pos) (tE T XE (cA (bH yL) m)):=
 A7 (c:=.type "ValueError") (wK (v:=.ty "ValueError") IZ Pz oH rfl) rfl (λ C b h=>by
  unfold yL at h
  split at h
  ·rename_i hc
   cases h
   exact⟨x.is C hc,x.O6 hc⟩
  ·cases h) hm ha hK hg he By fe
theorem wO {i:Nat}{p:Pos}{es:List Expr}{is:List Nat}(x:Xs T X.mg)(hi:i < 9)(h:PA X es (tK ((is.map T.cl).map V.ref))) (IZ:Gl X (gP i):=by rfl) (jm:(gP i == ("__debug__":Str))=false:=by decide +kernel) (hs:starEach (.Name (gP i) p :: es) X.env=(false,eval (.Name (gP i) p) X.env) :: starEach es X.env:=by rfl) :
  PA X (.Name (gP i) p :: es) (tK (((i :: is).map T.cl).map V.ref)):=Ar (sH (v:=.ref (T.cl i)) IZ (x.gl i hi) rfl jm) h hs
theorem Ew {is:List Nat}{p p2:Pos}{e:Expr}{cls:List Expr}{x1:Nat}{m:Ev}(x:Xs T X.mg)(hi:is.all (· < 9)=true) (hl:is.length<=1000)(hm:X.mg "isinstance"=none)(hv:PA X cls (tK ((is.map T.cl).map V.ref))) (ha:PE X e (tE T XE m)) (hK:X.K=T.K:=by rfl)(hg:Gl X "isinstance":=by rfl)
  (he:starEach [e,.Tuple cls x1 p2] X.env=(false,eval e X.env) :: starEach [.Tuple cls x1 p2] X.env:=by rfl) (By:starEach [.Tuple cls x1 p2] X.env=(false,eval (.Tuple cls x1 p2) X.env) :: starEach [] X.env:=by rfl) (fe:(backTo pos (starEach [.Tuple cls x1 p2] X.env)).any (·.1)=false:=by rfl) :
  PE X (.Call (.Name "isinstance" p) [e,.Tuple cls x1 p2] [] pos) (tE T XE (cA (bH (qG is)) m)):=
 Eu hv (by rw[List.length_map];exact hl) (λ C b h=>by
  unfold qG at h
  split at h
  ·rename_i hc
   cases h
   exact⟨x.is C hc,x.Lz hc λ i yR=>of_decide_eq_true (List.all_eq_true.mp hi i yR)⟩
  ·cases h) hm ha hK hg he By fe
end
end Mm
namespace Ro
open PySem L2 Mm
section
variable {P:Program}{w:World}{T:Tx}{mg:Str->Option Value}{base:Heap}
theorem cF {x:Str}{st:Stmt}{k n:Nat}{body:Ms}(N:List Str)(D:Df T mg x st)(S:iy N (N.take n) (ax st))
  (hb:∀ (kV doc pm:Value) (an:Option Addr) (dD ct:Value) (us:List Value),us.length=(N.take n).length->bindArgs (PySem.W.fnOf x x (cO st) (bL st) (ax st) .none kV doc pm an dD ct) ⟨us,[]⟩=pure ((N.take n).zip us)) (hn:(N.take n).length=n)
  (h:∀ (f:Addr) (dD:Value) (A:Around) (outer:List Env) (s:Shared) (H:Hp) (E:XK),cX k (A.deeper (PyProof.Rows.envOfC x (ax st) s.heap.objs.size f dD))->N.Nodup->Ls T (jE (nM P w) P w T.K mg base N x (ax st) f dD A outer s H E) (kQ T E)->kA (jE (nM P w) P w T.K mg base N x (ax st) f dD A outer s H E) (bL st) (tS T (kQ T E) body)) :
  gJ P w T mg base x n (k+1) (eB N.length body):=by
 obtain⟨f,fd,F,m⟩:=D.ex
 have:=tw F S λ dD A outer s H E hr=>h f dD A outer s H E hr S.nd uG
 rw[hn]at this
 exact⟨f,fd,_,this,F.binds hb,m,F.kp⟩
theorem yB {k n:Nat}{f:Addr}{fd:FuncData}{ps:List Str}(hl:ps.length=n):gA P w T.K mg base (nM P w) k f fd ps (yO T n λ _ _=>.bad):=
 ⟨λ vs H Q E h=>h.1.trans hl.symm,λ A outer s H args us vs Q E _ _ _ _ h=>by obtain⟨_,ρ,st,a,_,_,z⟩:=h;exact z.elim⟩
theorem Fd {x:Str}{st:Stmt}{n k:Nat}(ps:List Str)(D:Df T mg x st)(hl:ps.length=n)
  (hb:∀ (kV doc pm:Value) (an:Option Addr) (dD ct:Value) (us:List Value),us.length=ps.length->bindArgs (PySem.W.fnOf x x (cO st) (bL st) (ax st) .none kV doc pm an dD ct) ⟨us,[]⟩=pure (ps.zip us)):gJ P w T mg base x n k λ _ _=>.bad:=by
 obtain⟨f,fd,F,m⟩:=D.ex
 exact⟨f,fd,ps,yB hl,F.binds hb,m,F.kp⟩
end
end Ro
namespace Mm
open PySem L2
def qX (f:Str)(v:AV):List (Str × AV)->List (Str × AV)
 | []=>[(f,v)]
 | (g,x) :: r=>if g=f then (g,v) :: r else (g,x) :: qX f v r
section
variable {T:Tx}{XE:gI}{X:Cx}{pos:Pos}
def oj (T:Tx)(ρ:List Addr)(H:Hp)(fs:List (Str × AV)) (ks:List (Str × V)):Prop:=fs.map (·.1)=ks.map (·.1)/\aJ T ρ H (fs.map (·.2)) (ks.map (·.2))
theorem oj.nil {ρ:List Addr}{H:Hp}:oj T ρ H [] []:=⟨rfl,.nil⟩
theorem oj.nil_inv {ρ:List Addr}{H:Hp}{ks:List (Str × V)}(h:oj T ρ H [] ks):ks=[]:=by
 have:=h.1
 cases ks with
 | nil=>rfl
 | cons a r=>simp at this
theorem oj.cons_inv {ρ:List Addr}{H:Hp}{g:Str}{v:AV}{fs:List (Str × AV)}{ks:List (Str × V)}(h:oj T ρ H ((g,v) :: fs) ks):∃ x r,ks=(g,x) :: r/\VR T ρ H v x/\oj T ρ H fs r:=by
 obtain⟨h1,h2⟩:=h
 cases ks with
 | nil=>simp at h1
 | cons a r=>
  obtain⟨g',x⟩:=a
  simp only[List.map_cons,List.cons.injEq]at h1
  obtain⟨y,ys,e,k1,k2⟩:=aJ.cons_inv (show aJ T ρ H (v :: fs.map (·.2)) (x :: r.map (·.2)) from h2)
  cases e
  obtain⟨rfl,h1⟩:=h1
  exact⟨x,r,rfl,k1,h1,k2⟩
theorem oj.cons {ρ:List Addr}{H:Hp}{g:Str}{v:AV}{x:V}{fs:List (Str × AV)}{ks:List (Str × V)}(h:VR T ρ H v x)(k:oj T ρ H fs ks):oj T ρ H ((g,v) :: fs) ((g,x) :: ks):=
 ⟨by simp[k.1],.cons h k.2⟩
theorem oj.get {ρ:List Addr}{H:Hp}{f:Str}{v:AV}:∀ {fs:List (Str × AV)}{ks:List (Str × V)},oj T ρ H fs ks->fs.lookup f=some v->∃ x,ks.lookup f=some x/\VR T ρ H v x
 | [],_,_,e=>by cases e
 | (g,w) :: fs,ks,h,e=>by
  obtain⟨x,r,rfl,h1,h2⟩:=h.cons_inv
  rw[List.lookup_cons]at e ⊢
  by_cases q:(f == g)=true
  ·rw[q]at e ⊢
   cases e
   exact⟨x,rfl,h1⟩
  ·rw[Bool.eq_false_iff.mpr q]at e ⊢
   exact oj.get h2 e
theorem oj.az {ρ:List Addr}{H:Hp}{f:Str}:∀ {fs:List (Str × AV)}{ks:List (Str × V)},oj T ρ H fs ks->fs.lookup f=none->ks.lookup f=none
 | [],_,h,_=>by rw[h.nil_inv];rfl
 | (g,w) :: fs,ks,h,e=>by
  obtain⟨x,r,rfl,h1,h2⟩:=h.cons_inv
  rw[List.lookup_cons]at e ⊢
  by_cases q:(f == g)=true
  ·rw[q]at e;cases e
  ·rw[Bool.eq_false_iff.mpr q]at e ⊢
   exact oj.az h2 e
theorem oj.put {ρ:List Addr}{H:Hp}{f:Str}{v:AV}{x:V}(k:VR T ρ H v x):∀ {fs:List (Str × AV)}{ks:List (Str × V)},oj T ρ H fs ks->oj T ρ H (qX f v fs) (jg f x ks)
 | [],_,h=>by rw[h.nil_inv];exact .cons k .nil
 | (g,w) :: fs,ks,h=>by
  obtain⟨y,r,rfl,h1,h2⟩:=h.cons_inv
  unfold qX jg
  by_cases q:g=f
  ·rw[if_pos q,if_pos q];exact .cons k h2
  ·rw[if_neg q,if_neg q];exact .cons h1 (oj.put k h2)
theorem oj.gr {ρ ρ':List Addr}{H H':Hp}{fs:List (Str × AV)}{ks:List (Str × V)}(u:Gr ρ H ρ' H')(h:oj T ρ H fs ks):oj T ρ' H' fs ks:=⟨h.1,h.2.gr u⟩
theorem oj.length {ρ:List Addr}{H:Hp}{fs:List (Str × AV)}{ks:List (Str × V)}(h:oj T ρ H fs ks):fs.length=ks.length:=by
 have:=congrArg List.length h.1
 simpa using this
theorem SR.Bp {ρ:List Addr}{H:Hp}{s:S}(sr:SR T ρ s H){i c:Nat}{fs:List (Str × AV)}(e:s[i]? = some (.ins c fs)) {x:V}(h:VR T ρ H (.ref i) x):∃ (a dx:Addr) (ks:List (Str × V)),x=.ref a/\ρ[i]? = some a/\H a=some (.ins (T.cl c) dx ks)/\oj T ρ H fs ks:=by
 obtain⟨a,e1,rfl⟩:=h.fN
 obtain⟨b,e2,dx,ks,h1,h2,h3⟩:=sr.obj i _ e
 rw[e1]at e2
 cases e2
 exact⟨a,dx,ks,rfl,e1,h1,h2,h3⟩
def nB (c:Nat)(v:AV)(s:S):Option (Nat × List (Str × AV)):=match v with
 | .ref i=>match s[i]? with
  | some (.ins c' fs)=>if c'=c then some (i,fs) else none
  | _=>none
 | _=>none
theorem pZ {c i:Nat}{v:AV}{s:S}{fs:List (Str × AV)}(h:nB c v s=some (i,fs)):v=.ref i/\s[i]? = some (.ins c fs):=by
 unfold nB at h
 split at h
 ·rename_i j
  split at h
  ·rename_i c' Mg e
   split at h
   ·rename_i q
    cases h
    exact⟨rfl,by rw[e,q]⟩
   ·cases h
  ·cases h
 ·cases h
def cY (c:Nat)(f:Str)(v:AV)(s:S):R AV:=need (nB c v s) λ p=>need (p.2.lookup f) λ w=>.ok w s
theorem Iu {c:Nat}{f:Str}{e:Expr}{m:Ev}(cl:vh T.K (T.cl c)) (na:iP T.K (T.cl c) f) (he:PE X e (tE T XE m)) (hK:X.K=T.K:=by rfl)(hb:attributeBase e f X.env (eval e X.env)=eval e X.env:=by rfl):PE X (.Attribute e f pos) (tE T XE (cA (cY c f) m)):=
 PE.imp (Hu he hb) λ σ H Q ⟨ρ,env,s,hs,he,ho⟩=>step hs he ho λ v s1 ρ1 H1 x _ u1 aL cb aI ay=>by
  obtain⟨p,e1,cU⟩:=ay.ao
  obtain⟨w,e2,jH⟩:=cU.ao
  obtain⟨i,fs⟩:=p
  obtain⟨rfl,e3⟩:=pZ e1
  obtain⟨a,dx,ks,rfl,_,h1,h2⟩:=aL.Bp e3 aI
  obtain⟨y,e4,k⟩:=h2.get e2
  exact⟨a,T.cl c,dx,ks,y,rfl,h1,hK ▸ cl,hK ▸ na,e4,jH.aK aL k⟩
def gW (c:Nat)(f:Str)(mo mv:Ev):Ms:=λ env s=>(mv env s).dI λ y s1=>(mo env s1).dI λ x s2=>match nB c x s2 with
 | some p=>if p.2.length < 1000 then .nx env (s2.set p.1 (.ins c (qX f y p.2))) else .bad
 | none=>.bad
theorem HU {c:Nat}{f:Str}{o value:Expr}{pos':Pos}{mo mv:Ev}(cl:vh T.K (T.cl c)) (na:iP T.K (T.cl c) f) (ho:PE X o (tE T XE mo)) (hv:PE X value (tE T XE mv)) (hK:X.K=T.K:=by rfl)(hs:swapsWith value (some (.Attribute o f pos')) pos.line X.env=pure false:=by rfl) :
  PS X (.Assign [.Attribute o f pos'] value pos) (tS T XE (gW c f mo mv)):=
 PS.imp (Hf ho hv hs) λ D σ H ⟨ρ,env,s,sr,er,h⟩=>fm sr er h λ y s1 ρ1 H1 y' _ u1 aL cb aI h1=>fm aL cb h1 λ x s2 ρ2 H2 x' _ u2 fA lQ iz h2=>by
  have aI:VR T ρ2 H2 y y':=VR.up u2 aI
  cases e:nB c x s2 with
  | none=>simp only[e]at h2;exact h2.elim
  | some p=>
   simp only[e]at h2
   obtain⟨i,fs⟩:=p
   obtain⟨rfl,e3⟩:=pZ e
   obtain⟨a,dx,ks,rfl,ea,h3,h4⟩:=fA.Bp e3 iz
   by_cases hl:fs.length < 1000
   ·rw[if_pos hl]at h2
    have up:Up ρ2 H2 ρ2 (upd H2 a (.ins (T.cl c) dx (jg f y' ks))):=fA.qN ea h3 (λ _ z=>nomatch z) (λ _ _ z=>nomatch z)
    refine⟨a,T.cl c,dx,ks,rfl,h3,hK ▸ cl,hK ▸ na,by rw[<-h4.length];exact hl,h2 ρ2 _ σ up (fA.set ea up ?_) (lQ.up up)⟩
    have k:=(h4.put (f:=f) aI).gr up.toGr
    exact⟨dx,_,av ..,k.1,k.2⟩
   ·rw[if_neg hl]at h2
    exact h2.elim
def aX (c:Nat)(m:Str)(n:Nat)(F:List AV->S->R AV)(mo:Ev)(r:dY):Ev:=λ env s=>(mo env s).bind λ x s1=>need (nB c x s1) λ p=>if p.2.lookup m=none then (r env s1).bind λ vs s2=>if vs.length=n then F (x :: vs) s2 else .bad else .bad
structure jc (P:Program)(w:World)(T:Tx)(mg:Str->Option Value)(base:Heap)(c:Nat)(m:Str)(n k:Nat)(Fn:List AV->S->R AV):Prop where
 ex:∃ f fd ps,gA P w T.K mg base (nM P w) k f fd ps (yO T (n+1) Fn)/\Binds T.K fd ps []/\Meth T.K (T.cl c) m f
theorem wV {E:XK}{c n:Nat}{m:Str}{F:List AV->S->R AV}{mo:Ev}{r:dY}{σ:St}{H:Hp}{Q:VK}(k:∀ c ρ s H,XE c ρ s H->kQ T E c ρ s H)(h:tE T XE (aX c m n F mo r) σ H Q):zv (T.cl c) m (yO T (n+1) F) [] E (tE T XE mo) (tP T XE r) σ H Q:=by
 obtain⟨ρ,env,s,hs,he,ho⟩:=h
 refine step hs he ho λ x s1 ρ1 H1 x' _ u1 aL cb aI ay=>?_
 obtain⟨p,e1,cU⟩:=ay.ao
 obtain⟨LR,jH⟩:=cU.a7
 clear ay cU
 obtain⟨i,fs⟩:=p
 obtain⟨rfl,e3⟩:=pZ e1
 have aI:VR T ρ1 H1 (.ref i) x':=aI
 obtain⟨a,dx,ks,rfl,ea,h3,h4⟩:=aL.Bp e3 aI
 refine⟨a,dx,ks,rfl,h3,h4.az LR,?_⟩
 refine step aL cb jH λ vs s2 ρ2 H2 xs _ u2 fA lQ iz CD=>?_
 obtain⟨hl,Sj⟩:=CD.a7
 have iz:aJ T ρ2 H2 vs xs:=iz
 rw[List.append_nil]
 exact⟨by simp[<-iz.length,hl],ρ2,s2,_,fA,.cons (aI.up u2) iz,Sj.xe k⟩
theorem Es {pl:Sem Bool}{c n k:Nat}{m:Str}{Fn:List AV->S->R AV}{o e:Expr}{es:List Expr}{apos:Pos}{mo:Ev}{r:dY}(cl:vh T.K (T.cl c)) (h:jc X.prog X.w T X.mg X.base c m n k Fn)(hr:cX k X.A)(ho:PE X o (tE T XE mo)) (ha:PA X (e :: es) (tP T XE r)) (ls:Ls T X XE)(hK:X.K=T.K:=by rfl)
  (vX:starEach (e :: es) X.env=(false,eval e X.env) :: starEach es X.env:=by rfl) (fe:(backTo pos (starEach es X.env)).any (·.1)=false:=by rfl)
  (ht:eval (.Call (.Attribute o m apos) (e :: es) [] pos) X.env=(do
   let ov <-eval o X.env
   standAt apos.atName
   let (f,first) <-holding [ov] (getMethod ov m pl)
   callWith pos f first (backTo pos (starEach (e :: es) X.env)) (backToKw pos (keywordEach [] X.env))):=by rfl) :
  PE X (.Call (.Attribute o m apos) (e :: es) [] pos) (tE T XE (aX c m n Fn mo r)):=by
 obtain⟨f,fd,ps,G,hb,hm⟩:=h.ex
 obtain⟨E,l,hE⟩:=ls.ex
 exact PE.imp (DM (E:=E) (pl:=pl) ho (hK ▸ cl) (hK ▸ hm) (by rw[hK];exact G) hr (by rw[hK];exact hb) .nil l.passes ha vX fe ht) λ _ _ _ h=>wV hE h
theorem A4 {pl:Sem Bool}{c k:Nat}{m:Str}{Fn:List AV->S->R AV}{o:Expr}{apos:Pos}{mo:Ev}(cl:vh T.K (T.cl c)) (h:jc X.prog X.w T X.mg X.base c m 0 k Fn)(hr:cX k X.A)(ho:PE X o (tE T XE mo)) (ls:Ls T X XE)(hK:X.K=T.K:=by rfl)
  (ht:eval (.Call (.Attribute o m apos) [] [] pos) X.env=(do
   let ov <-eval o X.env
   standAt apos.atName
   let (f,first) <-holding [ov] (getMethod ov m pl)
   callWith pos f first (backTo pos (starEach [] X.env)) (backToKw pos (keywordEach [] X.env))):=by rfl) :
  PE X (.Call (.Attribute o m apos) [] [] pos) (tE T XE (aX c m 0 Fn mo ag)):=by
 obtain⟨f,fd,ps,G,hb,hm⟩:=h.ex
 obtain⟨E,l,hE⟩:=ls.ex
 refine PE.imp (Ah (E:=E) (pl:=pl) ho (hK ▸ cl) (hK ▸ hm) (by rw[hK];exact G) hr (by rw[hK];exact hb) .nil l.passes ht) λ σ H Q h=>?_
 obtain⟨ρ,env,s,hs,he,ho⟩:=wV hE h
 refine⟨ρ,env,s,hs,he,ho.imp λ x H1 ⟨a,dx,fs,e1,e2,e3,ρ1,SX,s1,k1,k2,k3⟩=>⟨a,dx,fs,e1,e2,e3,?_⟩⟩
 exact k3 ρ1 H1 [] .refl k1 (aJ.nil (T:=T) (ρ:=ρ1) (H:=H1))
def lG (c:Nat)(F:List AV->S->R AV):Ev:=λ _ s=>(F [.ref s.length] (s++[.ins c []])).bind λ v s2=>match v with
 | .az=>.ok (.ref s.length) s2
 | _=>.bad
structure Nd (P:Program)(w:World)(T:Tx)(mg:Str->Option Value)(base:Heap)(c:Nat)(nm:Str)(k:Nat)(Fn:List AV->S->R AV):Prop where
 ex:∃ f fd ps,gA P w T.K mg base (nM P w) k f fd ps (yO T 1 Fn)/\Binds T.K fd ps []/\Mk T.K (T.cl c) f/\mg nm=some (.ref (T.cl c))
theorem A6 {c k:Nat}{Fn:List AV->S->R AV}{x:Str}{p:Pos}(h:Nd X.prog X.w T X.mg X.base c x k Fn)(hr:cX (k+1) X.A) (ls:Ls T X XE)(hK:X.K=T.K:=by rfl)(hg:Gl X x:=by rfl)(jm:(x == ("__debug__":Str))=false:=by decide):PE X (.Call (.Name x p) [] [] pos) (tE T XE (lG c Fn)):=by
 obtain⟨f,fd,ps,G,hb,M,hm⟩:=h.ex
 obtain⟨E,l,hE⟩:=ls.ex
 refine PE.imp (Ai (E:=E) (hK ▸ M) (by rw[hK];exact G) hr hg hm (by rw[hK];exact hb) .nil l.passes jm) λ σ H Q ⟨ρ,env,s,hs,he,ho⟩=>?_
 intro a dx ha hd EY
 have JM:upd H dx (.own a) a=none:=by rw[ah (Ne.symm EY)];exact ha
 have u1:Up ρ H ρ (upd (upd H dx (.own a)) a (.ins (T.cl c) dx [])):=(hs.d_ hd).trans ((hs.new hd).d_ JM)
 have u2:Up ρ H (ρ++[a]) (upd (upd H dx (.own a)) a (.ins (T.cl c) dx [])):=u1.add ha
 have fA:SR T (ρ++[a]) (s++[.ins c []]) (upd (upd H dx (.own a)) a (.ins (T.cl c) dx [])):=((hs.new hd).new JM).add ((hs.new hd).out JM) ⟨dx,[],av ..,rfl,.nil⟩
 have iz:VR T (ρ++[a]) (upd (upd H dx (.own a)) a (.ins (T.cl c) dx [])) (.ref s.length) (.ref a):=lh (by rw[List.getElem?_append_right (by rw[hs.len];omega),hs.len];simp)
 refine⟨rfl,ρ++[a],s++[.ins c []],[.ref s.length],fA,.one iz,?_⟩
 have ho:=Out.up u2 ho
 unfold lG at ho
 cases e:Fn [.ref s.length] (s++[.ins c []]) with
 | bad=>rw[e]at ho;exact ho.elim
 | ex c' s3=>rw[e]at ho;exact λ ρ' H' u sr=>hE _ _ _ _ (ho ρ' H' u sr)
 | ok v s3=>
  rw[e]at ho
  intro ρ' H' x' u sr vr
  rw[aA]at ho
  have vr:VR T ρ' H' v x':=vr
  cases v with
  | az=>exact⟨vr.gH,ho ρ' H' (.ref a) u sr (iz.up u)⟩
  | _=>exact ho.elim
end
end Mm
namespace Ro
open PySem L2 Mm
structure fz (T:Tx)(c:Nat)(m qual:Str)(st:Stmt):Prop where
 ex:∃ f fd,Cu T.K m qual st f fd/\Meth T.K (T.cl c) m f
structure Ng (T:Tx)(mg:Str->Option Value)(c:Nat)(nm qual:Str)(st:Stmt):Prop where
 ex:∃ f fd,Cu T.K "__init__" qual st f fd/\Mk T.K (T.cl c) f/\mg nm=some (.ref (T.cl c))
structure Bk (T:Tx)(c:Nat)(fs:List Str):Prop where
 cl:vh T.K (T.cl c)
 na:∀ f∈fs,iP T.K (T.cl c) f
section
variable {P:Program}{w:World}{T:Tx}{mg:Str->Option Value}{base:Heap}
theorem cV {c:Nat}{m qual:Str}{st:Stmt}{k n:Nat}{body:Ms}(N:List Str)(D:fz T c m qual st)(S:iy N (N.take (n+1)) (ax st))
  (hb:∀ (kV doc pm:Value) (an:Option Addr) (dD ct:Value) (us:List Value),us.length=(N.take (n+1)).length->bindArgs (PySem.W.fnOf m qual (cO st) (bL st) (ax st) .none kV doc pm an dD ct) ⟨us,[]⟩=pure ((N.take (n+1)).zip us)) (hn:(N.take (n+1)).length=n+1)
  (h:∀ (f:Addr) (dD:Value) (A:Around) (outer:List Env) (s:Shared) (H:Hp) (E:XK),cX k (A.deeper (PyProof.Rows.envOfC qual (ax st) s.heap.objs.size f dD))->N.Nodup->Ls T (jE (nM P w) P w T.K mg base N qual (ax st) f dD A outer s H E) (kQ T E)->kA (jE (nM P w) P w T.K mg base N qual (ax st) f dD A outer s H E) (bL st) (tS T (kQ T E) body)) :
  jc P w T mg base c m n (k+1) (eB N.length body):=by
 obtain⟨f,fd,F,M⟩:=D.ex
 have:=tw F S λ dD A outer s H E hr=>h f dD A outer s H E hr S.nd uG
 rw[hn]at this
 exact⟨f,fd,_,this,F.binds hb,M⟩
theorem Ji {c:Nat}{nm qual:Str}{st:Stmt}{k:Nat}{body:Ms}(N:List Str)(D:Ng T mg c nm qual st)(S:iy N (N.take 1) (ax st))
  (hb:∀ (kV doc pm:Value) (an:Option Addr) (dD ct:Value) (us:List Value),us.length=(N.take 1).length->bindArgs (PySem.W.fnOf "__init__" qual (cO st) (bL st) (ax st) .none kV doc pm an dD ct) ⟨us,[]⟩=pure ((N.take 1).zip us)) (hn:(N.take 1).length=1)
  (h:∀ (f:Addr) (dD:Value) (A:Around) (outer:List Env) (s:Shared) (H:Hp) (E:XK),cX k (A.deeper (PyProof.Rows.envOfC qual (ax st) s.heap.objs.size f dD))->N.Nodup->Ls T (jE (nM P w) P w T.K mg base N qual (ax st) f dD A outer s H E) (kQ T E)->kA (jE (nM P w) P w T.K mg base N qual (ax st) f dD A outer s H E) (bL st) (tS T (kQ T E) body)) :
  Nd P w T mg base c nm (k+1) (eB N.length body):=by
 obtain⟨f,fd,F,M,hm⟩:=D.ex
 have:=tw F S λ dD A outer s H E hr=>h f dD A outer s H E hr S.nd uG
 rw[hn]at this
 exact⟨f,fd,_,this,F.binds hb,M,hm⟩
end
end Ro
namespace Mm
open PySem L2
section
variable {T:Tx}{XE:gI}{X:Cx}{pos:Pos}
def ug:List AV->Option (List Str)
 | []=>some []
 | .str x :: r=>(ug r).map (x :: ·)
 | _=>none
theorem pe:∀ {l:List AV}{ss:List Str},ug l=some ss->l=ss.map AV.str
 | [],_,h=>by cases h;rfl
 | .str x :: r,ss,h=>by
  have h:(ug r).map (x :: ·)=some ss:=h
  cases e:ug r with
  | none=>rw[e]at h;cases h
  | some q=>rw[e]at h;cases h;rw[List.map_cons,<-pe e]
 | .az :: _,_,h=>by cases h
 | .bl _ :: _,_,h=>by cases h
 | .int _ :: _,_,h=>by cases h
 | .tup _ :: _,_,h=>by cases h
 | .ref _ :: _,_,h=>by cases h
 | .sq _ :: _,_,h=>by cases h
def lM (m:Ev):dY:=λ env s=>(m env s).bind λ v s1=>match v with
 | .ref i=>need (ak s1 i) λ l=>need (ug l) λ ss=>if ss.length < 64 then .ok ((au ss).map .str) s1 else .bad
 | _=>.bad
theorem AW {e:Expr}{p:Pos}{m:Ev}(hm:X.mg "sorted"=none)(h:PE X e (tE T XE m)) (hg:Gl X "sorted":=by rfl)(he:starEach [e] X.env=(false,eval e X.env) :: starEach [] X.env:=by rfl) (fe:(backTo pos (starEach [] X.env)).any (·.1)=false:=by rfl) :
  PE X (.Call (.Name "sorted" p) [e] [] pos) (tL T XE (lM m)):=
 PE.imp (eM qh hg hm PyProof.Rows.boot_sorted (cf h fC he) (by decide) (by decide) he fe) λ σ H Q ⟨ρ,env,s,hs,he,ho⟩=>step hs he ho λ v s1 ρ1 H1 x _ u1 aL cb aI ay=>by
  cases v with
  | ref i=>
   obtain⟨l,e1,cU⟩:=ay.ao
   obtain⟨ss,e2,jH⟩:=cU.ao
   obtain⟨hl,CD⟩:=jH.a7
   obtain⟨a,vs,rfl,ea,h1,k⟩:=aL.eA (aw e1) aI
   rw[pe e2]at k
   cases k.pj
   refine⟨a,ss,rfl,h1,hl,λ CA d hd hp hs=>?_⟩
   rw[jf hp (gG hs)]
   exact CD.lst aL hd (aJ.map (λ _=>gQ) _)
  | _=>exact ay.elim
def HE (a y:AV)(s:S):R AV:=match a with
 | .ref i=>need (gC s i) λ kvs=>need (f7 y) λ k=>.ok ((aP kvs k).getD .az) s
 | _=>.bad
def rn (d y:Ev):Ev:=λ env s=>(d env s).bind λ a s1=>need (iY "dict" a s1) λ _=>(y env s1).bind λ b s2=>HE a b s2
theorem Ez {o e:Expr}{apos br:Pos}{m n:Ev}(hu:X.A.units+1 < cLine)(ho:PE X o (tE T XE m)) (he:PE X e (tE T XE n)) (q:M1 X o "get" apos e br:=by exact⟨rfl,rfl,rfl,rfl⟩):PE X (.Call (.Attribute o "get" apos) [e] [] br) (tE T XE (rn m n)):=
 PE.imp (Am hu ho he q) λ σ H Q ⟨ρ,env,s,hs,he,ho⟩=>step hs he ho λ d s1 ρ1 H1 x _ u1 aL cb aI ay=>by
  obtain⟨_,e0,ay⟩:=ay.ao
  obtain⟨a,rfl,hd⟩:=Bo e0 aL aI
  refine⟨a,rfl,hd,step aL cb ay λ w s2 ρ2 H2 y _ u2 fA lQ iz cU=>?_⟩
  have aI:VR T ρ2 H2 d (.ref a):=VR.up u2 aI
  cases d with
  | ref i=>
   obtain⟨kvs,e1,jH⟩:=cU.ao
   obtain⟨k,e2,CD⟩:=jH.ao
   obtain⟨b,ks,eb,ea,h1,q1,q2⟩:=fA.qE (fP e1) aI
   cases eb
   refine⟨gR ks k,by rw[fU e2 iz];exact jz.k h1,?_⟩
   cases ev:aP kvs k with
   | none=>rw[(dQ k q1 q2).2 ev];rw[ev]at CD;exact CD.aK fA mT
   | some v=>obtain⟨x',ex,kx⟩:=(dQ k q1 q2).1 v ev;rw[ex];rw[ev]at CD;exact CD.aK fA kx
  | _=>exact cU.elim
def xV (a:Ev):Src:=λ env s=>(a env s).bind λ v s1=>need (qu false v s1) λ p=>.ok (rR p.1,p.2) s1
theorem Ek {es:List Expr}{kk:Nat}{mV:Pos}{e1:Expr}{p:Pos}{a:Ev}(hK:X.K=T.K)(hm:X.mg "enumerate"=none)(h1:PE X e1 (tE T XE a)) (hg:Gl X "enumerate":=by rfl)
  (hs:starEach [e1] X.env=(false,eval e1 X.env) :: starEach [] X.env:=by rfl) (fe:(backTo pos (starEach [] X.env)).any (·.1)=false:=by rfl) :
  PI X (.Tuple es kk mV) (.Call (.Name "enumerate" p) [e1] [] pos) (tW T XE (xV a)):=
 PI.imp (DJ hg hm h1 hs fe) λ σ H R ⟨ρ,env,s,hs,he,ho⟩=>step hs he ho λ v s1 ρ1 H1 x _ u1 aL cb aI ay=>by
  obtain⟨r,e,cU⟩:=ay.ao
  obtain⟨xs,g⟩:=r
  obtain⟨a1,rfl,⟨N3,x1⟩,w1⟩:=pA e aL aI
  have x1:fh T.K H1 a1 N3:=x1
  refine⟨a1,rfl,⟨N3,by rw[hK];exact x1⟩,cU ρ1 H1 _ .refl aL ⟨λ ρ' s' H' u' je gk=>?_⟩⟩
  obtain⟨vs,k1,k2⟩:=w1 ρ' s' H' u' je gk
  have k1:fh T.K H' a1 vs:=k1
  rw[hK]
  have vm:=k2.length
  refine⟨λ j z ez=>?_,⟨vs,k1,?_⟩⟩
  ·have hj:j < xs.length:=by
    have:=(List.getElem?_eq_some_iff.mp ez).1
    simp only[rR,List.length_map,List.length_zip,List.length_range]at this
    omega
   have P_:z=.tup [.int (j:Int),xs[j]]:=by
    have q:(rR xs)[j]? = some (.tup [.int (j:Int),xs[j]]):=by
     simp[rR,List.getElem?_zip_eq_some,hj]
    rw[q]at ez
    exact(Option.some.inj ez).symm
   subst P_
   obtain⟨x3,e3,v3⟩:=k2.get (List.getElem?_eq_getElem hj)
   refine⟨⟨vs,x3,k1,e3⟩,λ q H'' ⟨Tt,y1,eq,hT,eH,hy⟩=>?_⟩
   have f1:=hy vs k1
   rw[e3]at f1
   cases f1
   subst eq eH
   exact⟨je.d_ hT,je.new hT,jJ (hR.of av) (aJ.up (je.d_ hT) (.cons dZ (.one v3)))⟩
  ·rw[<-vm]
   simp only[rR,List.length_map,List.length_zip,List.length_range]
   omega
def lN (m:dY):dY:=λ env s=>(m env s).bind λ l s1=>need (ug l) λ ss=>if ss.length < 64 then .ok ((au ss).map .str) s1 else .bad
theorem AY {e:Expr}{p:Pos}{m:dY}(hm:X.mg "sorted"=none)(h:PE X e (tL T XE m)) (hg:Gl X "sorted":=by rfl)(he:starEach [e] X.env=(false,eval e X.env) :: starEach [] X.env:=by rfl) (fe:(backTo pos (starEach [] X.env)).any (·.1)=false:=by rfl) :
  PE X (.Call (.Name "sorted" p) [e] [] pos) (tL T XE (lN m)):=
 PE.imp (eM qh hg hm PyProof.Rows.boot_sorted (cf h fC he) (by decide) (by decide) he fe) λ σ H Q ⟨ρ,env,s,hs,he,ho⟩=>step hs he ho λ l s1 ρ1 H1 x _ u1 aL cb aI ay=>by
  obtain⟨ss,e2,jH⟩:=ay.ao
  obtain⟨hl,CD⟩:=jH.a7
  obtain⟨a,vs,rfl,_,_,h1,k⟩:=aI
  rw[pe e2]at k
  cases k.pj
  refine⟨a,ss,rfl,h1,hl,λ CA d hd hp hs=>?_⟩
  rw[jf hp (gG hs)]
  exact CD.lst aL hd (aJ.map (λ _=>gQ) _)
end
end Mm
namespace L2
open PySem PySem.Spec PyProof.Rows Mm
theorem vw {H H':Hp}{q:Str}{ps:Array Value}{pos:Pos}{c:Addr}{oc:Obj}{u:HO}{vs:Array Value}{t:Tok}(h:se H q ps)(k:∀ b o u,H b=some (.k9 o u)->H' b=some (.k9 o u))
  (hc:H' c=some (.k9 oc u)) (hd:oc.data=.fields vs) (hv:vs[1]? = some (.str q t)):se H' q (ps++#[rawInt pos.line,rawInt pos.col,.ref c]):=by
 have e:(ps++#[rawInt pos.line,rawInt pos.col,.ref c]).toList=ps.toList++[rawInt pos.line,rawInt pos.col,.ref c]:=by simp
 refine⟨by rw[e];exact TriplesOk_snoc _ _ _ _ h.1,λ p cv z=>?_⟩
 rw[e]at z
 have key:∀ l:List Value,TriplesOk l->codeAmong p (l++[rawInt pos.line,rawInt pos.col,.ref c])=some cv->codeAmong p l=some cv∨cv=.ref c:=by
  intro l hl
  fun_induction TriplesOk l with
  | case1=>
   intro z
   have z:(if (((pos.line:Int) == p.line) && ((pos.col:Int) == p.col))=true then some (Value.ref c) else none)=some cv:=z
   split at z
   ·cases z;exact .inr rfl
   ·cases z
  | case2 a b c' d e' r ih=>
   intro z
   simp only[List.cons_append,codeAmong]at z ⊢
   split at z
   ·rename_i q;rw[if_pos q];exact .inl z
   ·rename_i q;rw[if_neg q];exact ih hl z
  | case3=>exact hl.elim
 rcases key _ h.1 z with z|rfl
 ·obtain⟨c1,o1,u1,v1,t1,k1,k2,k3⟩:=h.2 p cv z
  exact⟨c1,o1,u1,v1,t1,k1,k _ _ _ k2,k3⟩
 ·exact⟨c,oc,u,vs,t,rfl,hc,hd,hv⟩
section
variable {X:Cx}{pos:Pos}
structure Cs (H H':Hp)(P:Addr)(q:Str):Prop where
 keep:∀ b o,H b=some o->b≠P->H' b=some o
 live:∀ b,H' b=none->H b=none
 tab:∃ ps,H' P=some (.oM ps)/\se H' q ps
def Oc (P:Addr)(q:Str):St->Hp->(Addr->Hp->Prop)->Prop:=λ _ H Q=>(∃ ps,H P=some (.oM ps)/\se H q ps)/\∀ H' f,Cs H H' P q->H' f=none->Q f H'
theorem IF {params:Arguments}{body:Expr}{scope:Scope}{c P:Addr}{q:Str}{lp:Pos}{pins:List (Addr × Obj)}{s:Shared}{σ:St}{H:Hp}{Q:Addr->Hp->Prop}
  (rK:X.env.code=.ref c) (hC:PySem.W.codeHdIn X.K c P=true) (hq:X.env.qual++"<lambda>"=q) (JN:closureFor scope X.env=pure []) (Bz:defaultsOf params X.env=([],[]))
  (I:Inv X pins σ H s) (h:Oc P q σ H Q) :
  wpAny (model X.prog X.w) X.A (eval (.Lambda params body scope lp) X.env) (λ v s'=>∃ f H',v=.ref f/\Inv X pins σ H' s'/\f+1=s'.heap.objs.size/\(∃ o,s'.heap.get? f=some o)/\X.base.get? f=none/\f≠X.env.locals/\Q f H') X.xe s:=by
 obtain⟨⟨ps,hP,hT⟩,hQ⟩:=h
 have Ma:s.heap.get? P=some (PySem.W.tabObj ps):=I.aQ P _ hP
 have PK:s.heap.Ns mainGlobals X.mg:=I.mod.glob.keeps I.bk
 obtain⟨bm,ob,b1,b2,b3,b4,b5,b6⟩:=I.mod.bmain
 have hgP:mainGlobals≠P:=λ z=>by
  obtain⟨o,es,ep,e,hd,_⟩:=PK
  rw[z,Ma]at e;cases e;cases hd
 have hbP:bm≠P:=λ z=>by
  have e:=I.bk _ _ b3
  rw[z,Ma]at e;cases e;cases b4
 have hbG:bm≠mainGlobals:=λ z=>by
  obtain⟨o,es,ep,e,hd,_⟩:=I.mod.glob
  rw[z,e]at b3;cases b3;rw[hd]at b6;cases b6
 have hB:s.heap.BuiltinsAt X.mg P:=⟨bm,ob,b1,b2,hbG,hbP,I.bk _ _ b3,b4,b5,b6⟩
 have C:PySem.W.CodeHd s.heap c P:=PySem.W.codeHd_of_K I.jl hC
 have hL:=I.lt
 have Q4:X.base.objs.size<=s.heap.objs.size:=Nat.le_trans I.ok.xA I.sz
 refine PySem.W.kla_eval Bz ?_
 cases hf:codeAmong lp ps.toList with
 | some cv=>
  refine PySem.W.kla_makeFunctionHit (mg:=X.mg) JN I.ok.glob PK rK C Ma hT.1 hf hB λ Qc h' tk hk hsz=>?_
  have F0:∀ b u,s.heap.get? b=some u->(h'.push (PySem.W.kla_obj "<lambda>" (X.env.qual++"<lambda>") params body scope [] ((X.mg "__name__").getD .none) 0 Qc)).get? b=some u:=λ b u e=>Heap.get?_push_of_some _ (hk b u e)
  refine⟨h'.objs.size,H,rfl,I.kept λ b u e=>Heap.get?_push_of_some _ (hk b u e),by simp[Heap.size_push],⟨_,Heap.get?_push_size _ rfl⟩,Heap.get?_none_of_le (Nat.le_trans Q4 hsz),Nat.ne_of_gt (Nat.lt_of_lt_of_le hL hsz),hQ H _ ⟨λ _ _ e _=>e,λ _ e=>e,ps,hP,hT⟩ (I.aQ.fresh hsz)⟩
 | none=>
  refine PySem.W.kla_makeFunction (mg:=X.mg) JN I.ok.glob PK rK C Ma hT.1 hf hgP hB λ c' Qc h' tk hx LU xh Pr QU=>?_
  obtain⟨c₂,oc,vs,t,e2,LO,hd,hv⟩:=Pr
  cases e2
  rw[hq]at hv
  have hsz:s.heap.objs.size<=h'.objs.size:=Nat.le_of_lt (Nat.lt_of_le_of_lt LU xh)
  have nc:H c'=none:=I.aQ.fresh LU
  have ncP:c'≠P:=λ z=>by rw[z,hP]at nc;cases nc
  let H2:Hp:=upd (upd H c' (.k9 oc (.own c'))) P (.oM (ps++#[rawInt lp.line,rawInt lp.col,.ref c']))
  have k2:∀ b o,H b=some o->b≠P->H2 b=some o:=λ b o e n=>by
   show upd _ _ _ b=_
   rw[ah n,ah (aF e nc)];exact e
  have nP:∀ b o,H b=some o->o≠.oM ps->b≠P:=λ b o e n z=>by subst z;rw[hP]at e;exact n (Option.some.inj e).symm
  have keepO:∀ b o,s.heap.get? b=some o->b≠P->∀ u:Obj,(h'.push u).get? b=some o:=λ b o e n u=>Heap.get?_push_of_some _ (hx b o n e)
  have free:∀ b o,s.heap.get? b=some o->H b=none->H2 b=none:=λ b o e n=>by
   show upd _ _ _ b=_
   rw[ah (λ z=>by rw[z,hP]at n;cases n),ah (λ z=>by rw[z]at e;exact absurd (Heap.lt_size e) (Nat.not_lt.mpr LU))];exact n
  have eP:H2 P=some (.oM (ps++#[rawInt lp.line,rawInt lp.col,.ref c'])):=av ..
  have ec:H2 c'=some (.k9 oc (.own c')):=by show upd _ _ _ c'=_;rw[ah ncP];exact av ..
  have live:∀ b,H2 b=none->H b=none:=λ b e=>by
   by_cases hb:b=P
   ·subst hb;rw[eP]at e;cases e
   ·by_cases hc:b=c'
    ·rw[hc];exact nc
    ·have e':upd (upd H c' (.k9 oc (.own c'))) P (.oM (ps++#[rawInt lp.line,rawInt lp.col,.ref c'])) b=none:=e
     rw[ah hb,ah hc]at e';exact e'
  have ff:∀ b o u,H b=some (.k9 o u)->H2 b=some (.k9 o u):=λ b o u e=>k2 b _ e (nP b _ e (λ z=>nomatch z))
  have tt:∀ b xs,H b=some (.tup xs)->H2 b=some (.tup xs):=λ b xs e=>k2 b _ e (nP b _ e (λ z=>nomatch z))
  have Sx:H2 h'.objs.size=none:=by
   show upd _ _ _ _=_
   rw[ah (λ z=>by have:=Heap.lt_size Ma;rw[<-z]at this;exact absurd (Nat.lt_of_lt_of_le this hsz) (Nat.lt_irrefl _)),ah (λ z=>by rw[<-z]at xh;exact absurd xh (Nat.lt_irrefl _))]
   exact I.aQ.fresh hsz
  let fo:=PySem.W.kla_obj "<lambda>" (X.env.qual++"<lambda>") params body scope [] ((X.mg "__name__").getD .none) c' Qc
  have un:Un X.fs [] H H2 s.heap (h'.push fo):=
   ⟨λ b o e n _ _=>keepO b o e (λ z=>by rw[z,hP]at n;cases n) fo,λ b o e n _ _=>⟨o.slots,keepO b o e (λ z=>by rw[z,hP]at n;cases n) fo⟩,λ b o e n _=>free b o e n,λ b o e _=>by
     by_cases hb:b=P
     ·exact⟨_,by rw[hb];exact Heap.get?_push_of_some _ QU⟩
     ·exact⟨o,keepO b o e hb fo⟩,tt,ff,λ b Tq e=>by
     by_cases hb:b=P
     ·subst hb
      rw[hP]at e;cases e
      exact⟨_,eP⟩
     ·exact⟨#[],by rw[k2 b _ e hb];simp⟩⟩
  have ho:jG X.prog X.w H2 (h'.push fo):=λ b u e=>by
   by_cases hb:b=P
   ·subst hb
    rw[eP]at e;cases e
    exact Heap.get?_push_of_some _ QU
   ·by_cases hc:b=c'
    ·subst hc
     rw[ec]at e;cases e
     exact⟨Heap.get?_push_of_some _ LO,⟨_,Heap.get?_push_of_some _ LO⟩⟩
    ·have e':upd (upd H c' (.k9 oc (.own c'))) P (.oM (ps++#[rawInt lp.line,rawInt lp.col,.ref c'])) b=some u:=e
     rw[ah hb,ah hc]at e'
     refine(I.aQ b u e').lj (λ d v hd q=>keepO d v q ?_ fo) (λ d q=>k2 d _ q (nP d _ q (λ z=>nomatch z))) tt
     rcases hd with z|z
     ·rw[z];exact hb
     ·exact nP d _ z (λ z=>nomatch z)
  exact⟨h'.objs.size,H2,rfl,I.un un ho,by simp[Heap.size_push],⟨_,Heap.get?_push_size _ rfl⟩,Heap.get?_none_of_le (Nat.le_trans Q4 hsz),Nat.ne_of_gt (Nat.lt_of_lt_of_le hL hsz),hQ H2 _ ⟨k2,live,_,eP,vw hT ff ec hd hv⟩ Sx⟩
def GH (P:Addr)(q:Str)(t:TE):TE:=λ σ H Q=>t σ H λ x H1=>∃ l,x=.ref l/\H1 l=some (.lst [])/\(∃ ps,H1 P=some (.oM ps)/\se H1 q ps)/\∀ H2 d,Cs H1 H2 P q->H2 d=none->Q (.ref d) (upd H2 d (.lst []))
theorem Af {e:Expr}{p kp lp:Pos}{params:Arguments}{body:Expr}{scope:Scope}{c P:Addr}{q:Str}{t:TE}(he:PE X e t)(hm:X.mg "sorted"=none)
  (rK:X.env.code=.ref c) (hC:PySem.W.codeHdIn X.K c P=true) (hq:X.env.qual++"<lambda>"=q) (JN:closureFor scope X.env=pure []) (Bz:defaultsOf params X.env=([],[])) (hg:Gl X "sorted":=by rfl)
  (hs:starEach [e] X.env=(false,eval e X.env) :: starEach [] X.env:=by rfl) (NI:backTo pos (starEach [e] X.env)=(false,eval e X.env) :: backTo pos (starEach [] X.env):=by rfl) (fe:(backTo pos (starEach [e] X.env)).any (·.1)=false:=by rfl) :
  PE X (.Call (.Name "sorted" p) [e] [⟨some (Str.ofString "key"),.Lambda params body scope lp,kp⟩] pos) (GH P q t):=by
 intro pins s σ H Q I h
 refine wpAny_Call_Name_kw (lH I hg hm PyProof.Rows.boot_sorted ?_ (by decide) (by decide))
 refine PyProof.Rows.callWith_kw ?_ NI fe
 rw[NI]
 refine Calls.spliced_cons (bG (he pins s σ H _ I h) λ u s1 ⟨x,H1,I1,r1,l,ex,hl,ht,hQ⟩=>?_)
 subst ex
 cases (show u=Value.ref l from r1)
 refine Calls.spliced_nil ?_
 refine PyProof.Rows.kws_cons ?_
 refine bG (IF (q:=q) (P:=P) (Q:=λ f H'=>Cs H1 H' P q) rK hC hq JN Bz I1 ⟨ht,λ H' f k _=>k⟩) λ v s2 ⟨f,H2,ev,I2,ef,⟨of,eo⟩,fb,fL,k2⟩=>?_
 subst ev
 refine PyProof.Rows.kws_nil ?_
 have sZ:H2 l=some (.lst []):=k2.keep l _ hl λ z=>by
  obtain⟨ps,hp,_⟩:=ht
  rw[z,hp]at hl;cases hl
 obtain⟨m,F⟩:=I2.fr
 obtain⟨_,its,n,rv,el⟩:=I2.aQ l _ sZ
 cases rv
 refine PyProof.Rows.ksk_sorted (b:=false) (kz:=[]) (vs:=[]) (f:=.ref f) F (AH (g:=X.base) (h:=s2.heap) (L:=X.env.locals)) ⟨_,el,rfl,n,rfl⟩ rfl (by decide) (PyProof.Rows.ksk_s1 _ _) (λ x=>PyProof.Rows.ksk_l1 _ _) (λ x=>PyProof.Rows.ksk_t1 _ _) (λ i v k hv=>by simp at hv) λ D h' tk out c F' N' lt ko=>?_
 have hD:s2.heap.objs.size<=D:=by
  have:=lt (f,of) (nU fL fb eo)
  rw[<-ef];exact this
 have nD:=I2.aQ.fresh hD
 have kp:∀ b o,b≠X.env.locals->s2.heap.get? b=some o->h'.get? b=some o:=λ b o n e=>by
  cases z:X.base.get? b with
  | some w=>
   have:=F.keep b w z
   rw[e]at this;cases this
   exact F'.keep b _ z
  | none=>exact(N' (b,o) (.tail _ (nU n z e))).1
 have IU:out=#[]:=by
  obtain⟨ps,hp,ho,_⟩:=ko
  have:ps=[]:=by simpa using hp
  rw[this]at ho
  exact Array.toList_inj.mp (ho.trans rfl)
 subst IU
 have eD:=(N' (D,PyProof.Rows.seqObj "list" #[] c) (.head _)).1
 have tn:∀ b u,H2 b=some u->b≠X.env.locals:=λ b u e z=>by rw[z,I2.free]at e;cases e
 refine⟨.ref D,upd H2 D (.lst []),?_,rfl,hQ H2 D k2 nD⟩
 refine I2.step (g':=s2.gens) (d':=s2.drawn) (ch:=[]) (λ _ z=>nomatch z) (λ b o n _ _ e _=>kp b o n e) (λ b o n _ _ e _=>⟨o.slots,kp b o n e⟩) (λ b o _ e z=>?_) (λ b o _ e=>?_) (λ b xs e=>by rw[ah (aF e nD)];exact e) (λ b o w e=>by rw[ah (aF e nD)];exact e) (λ b ps e=>⟨#[],by rw[ah (aF e nD),e];simp⟩) (λ m' hm=>?_) (λ b w e=>?_) I2.bare
 ·rw[ah (λ y=>by rw[y]at e;exact absurd (Heap.lt_size e) (Nat.not_lt.mpr hD))];exact z
 ·by_cases hb:b=X.env.locals
  ·obtain⟨o2,_,_,e2,_⟩:=F'.ns
   exact⟨o2,by rw[hb];exact e2⟩
  ·exact⟨o,kp b o hb e⟩
 ·have em:m'=m:=by
   funext y
   exact hm.agree F.ns y
  rw[em];exact F'.ns
 ·by_cases hb:b=D
  ·subst hb
   rw[av]at e;cases e
   exact⟨Nat.zero_le _,[],c,.nil,eD⟩
  ·rw[ah hb]at e
   refine(I2.aQ b w e).lj (λ d v hd z=>kp d v ?_ z) (λ d z=>by rw[ah (aF z nD)];exact z) (λ d xs z=>by rw[ah (aF z nD)];exact z)
   rcases hd with y|y
   ·rw[y];exact tn b w e
   ·exact tn d _ y
end
end L2
namespace L2
open PySem PySem.Spec PyProof.Rows
def xI (ts:List Addr)(H:Hp):Prop:=(∀ P∈ts,H P=some (.oM #[]))/\∀ b,b∉ts->H b=none∨∃ o xs,H b=some (.k9 o (.lst xs))
theorem yn {ts:List Addr}{P:Program}{w:World}{K:PySem.W.Frag}{mg mb:Str->Option Value}{CX:yU}{k:Nat}{fa a:Addr}{fd:FuncData}{x:Str}{sp:Sp}{s₁:Shared}{vs:List Value}{ns:List Int}
  (KX:K.In s₁.heap) (hT:∀ q∈ts,s₁.heap.get? q=some (PySem.W.tabObj #[])) (L':∀ q∈ts,isCodeTable s₁.heap q) (L_:∀ q∈ts,K.lookup q=none)
  (ND:s₁.heap.Ns mainGlobals mg) (hb:s₁.heap.Ns builtinsNs mb) (SE:∀ x:Str,x≠"__name__"->mb x=bootBuiltins x) (PB:s₁.heap.NoLimit) (Sy:s₁.heap.NoDigits)
  (SD:∃ bm ob,mg "__builtins__"=some (.ref bm)/\bm≠builtinsNs/\s₁.heap.get? bm=some ob/\ob.cls=.type "module"/\ob.dict=some builtinsNs/\ob.data=.plain) (hg:s₁.gens=#[])
  (ha:s₁.heap.get? a=some { cls:=.type "list",data:=.seq vs.toArray }) (hi:IntsAre vs ns) (hl:ns.length<=sizeLine) (hr:cX k callerA)
  (F:∀ base:Heap,K.In base->base.Ns mainGlobals mg->gA P w K mg base CX k fa fd [x] sp) (L6:∀ (s:Shared) (u:Value),BindsTo s fd ⟨[u],[]⟩ [(x,u)])
  (JH:∀ H:Hp,xI ts H->fh K H a (ns.map V.int)->sp [.ref a] H (λ v _=>v=.bl true) λ _ _ _=>False)
  (P4:∀ H e s',CX [] H s₁ (λ _ _ _=>False) e s'->False) :
  codeAny (model P w) callerA (.call (.ref fa) ⟨[.ref a],[]⟩) (λ r s'=>r=.ok (.ret (.bool true))/\OldK s₁.heap s'.heap/\s'.os=s₁.os/\AllBare s'.gens) s₁:=by
 have rv:=qM hi
 have lenV:=hi.length
 have nat:a∉ts:=λ z=>by
  have e:=hT a z
  rw[ha]at e;cases e
 have core:∀ H:Hp,xI ts H->fh K H a (ns.map V.int)->jG P w H s₁.heap->(∀ b,H b≠none->b=a∨b∈ts)->(H a≠none->K.lookup a=none)->
   codeAny (model P w) callerA (.call (.ref fa) ⟨[.ref a],[]⟩) (λ r s'=>r=.ok (.ret (.bool true))/\OldK s₁.heap s'.heap/\s'.os=s₁.os/\AllBare s'.gens) s₁:=by
  intro H hO hS aQ hA hK
  have base_of:∀ {b:Addr}{o:Obj},s₁.heap.get? b=some o->H b=none->(s_ s₁.heap H).get? b=some o:=λ e n=>Bw e n
  have noO:∀ {b:Addr}{o:Obj},s₁.heap.get? b=some o->o≠{ cls:=.type "list",data:=.seq vs.toArray }->o≠PySem.W.tabObj #[]->H b=none:=λ {b o} e n1 n2=>by
   cases q:H b with
   | none=>rfl
   | some u=>
    rcases hA b (by rw[q];simp) with e'|e'
    ·subst e'
     rw[ha]at e
     exact(n1 (Option.some.inj e).symm).elim
    ·rw[hT b e']at e
     exact(n2 (Option.some.inj e).symm).elim
  have nsK:∀ {b:Addr}{m:Str->Option Value},s₁.heap.Ns b m->(s_ s₁.heap H).Ns b m:=λ {b m} ⟨o,es,ep,e,d,r⟩=>⟨o,es,ep,base_of e (noO e (λ z=>by rw[z]at d;cases d) λ z=>by rw[z]at d;cases d),d,r⟩
  have Q6:K.In (s_ s₁.heap H):=λ b o e=>base_of (KX b o e) (by
   cases q:H b with
   | none=>rfl
   | some u=>
    rcases hA b (by rw[q];simp) with e'|e'
    ·subst e'
     rw[hK (by rw[q];simp)]at e;cases e
    ·rw[L_ b e']at e;cases e)
  have hM:Mod K mg (s_ s₁.heap H):=⟨Q6,nsK ND,⟨mb,nsK hb,SE⟩,let ⟨mc,h1,h2⟩:=PB;⟨mc,nsK h1,h2⟩,let ⟨mc,h1,h2⟩:=Sy;⟨mc,nsK h1,h2⟩,
   let ⟨bm,ob,b1,b2,b3,b4,b5,b6⟩:=SD;⟨bm,ob,b1,b2,base_of b3 (noO b3 (λ z=>by rw[z]at b6;cases b6) λ z=>by rw[z]at b6;cases b6),b4,b5,b6⟩⟩
  have e0:wu P w K mg (s_ s₁.heap H) callerA [] s₁ H:=⟨rfl,hM,λ b o e=>D7 e,Nat.le_of_eq (yx _ _),trivial,λ b hb=>absurd (show b∈([]:List Addr) from hb) (by simp),aQ,.of_eq hg⟩
  refine codeAny_mono ((F _ Q6 (nsK ND)).run callerA [] s₁ H ⟨[.ref a],[]⟩ [.ref a] [.ref a] _ _ hr e0 (L6 s₁ (.ref a)) (.cons rfl .nil) (JH H hO hS)) λ r s' h=>?_
  cases r with
  | error e=>exact(P4 H e s' h).elim
  | ok fl=>
   cases fl with
   | next=>exact False.elim h
   | brk=>exact False.elim h
   | cont=>exact False.elim h
   | ret u=>
    obtain⟨v,H',os,bare,un,LN,r',q⟩:=h
    have q':v=.bl true:=q
    subst q'
    obtain rfl:u=Value.bool true:=r'
    have old:∀ b o,s₁.heap.get? b=some o->s'.heap.get? b=some o∨(b∈ts/\o=PySem.W.tabObj #[]/\∃ more,s'.heap.get? b=some (PySem.W.tabObj more)):=λ b o e=>by
     by_cases hb:b∈ts
     ·refine .inr ⟨hb,?_,?_⟩
      ·rw[hT b hb]at e;exact(Option.some.inj e).symm
      ·obtain⟨more,z⟩:=un.ph b _ (hO.1 b hb)
       exact⟨_,LN b _ z⟩
     ·rcases hO.2 b hb with z|⟨ob,xs,z⟩
      ·exact .inl (un.keep b o e z (by intro z;exact absurd (show b∈([]:List Addr) from z) (by simp)) (by simp))
      ·have z2:=un.iF b ob _ z
       obtain⟨e1,_⟩:=aQ b _ z
       obtain⟨e2,_⟩:=LN b _ z2
       rw[e]at e1;cases e1
       exact .inl e2
    refine⟨rfl,⟨λ b o e=>?_,λ b o e=>?_⟩,os,bare⟩
    ·rcases old b o e with z|⟨hb,rfl,more,z⟩
     ·exact .inl z
     ·exact .inr (.inl ⟨L' b hb,rfl,#[],more,rfl,by rw[z];simp⟩)
    ·rcases old b o e with z|⟨_,_,more,z⟩
     ·exact⟨_,z⟩
     ·exact⟨_,z⟩
 have tok:∀ H:Hp,(∀ P∈ts,H P=some (.oM #[]))->∀ b∈ts,∀ u,H b=some u->bQ P w H s₁.heap b u:=λ H h b hb u e=>by
  rw[h b hb]at e;cases e
  exact hT b hb
 cases hk:K.lookup a with
 | some o=>
  have e:=KX a o hk
  rw[ha]at e
  cases e
  refine core (λ b=>if b∈ts then some (.oM #[]) else none) ⟨λ q hq=>if_pos hq,λ b hb=>.inl (if_neg hb)⟩ (.inr ⟨_,vs.toArray,_,hk,rfl,rfl,rfl,by rw[List.size_toArray,lenV];exact hl,by simpa using rv⟩) (λ b u z=>?_) (λ b z=>?_) λ z=>absurd (if_neg nat) z
  ·by_cases hb:b∈ts
   ·exact tok _ (λ q hq=>if_pos hq) b hb u z
   ·have z':=(if_neg hb).symm.trans z
    cases z'
  ·by_cases hb:b∈ts
   ·exact .inr hb
   ·exact absurd (if_neg hb) z
 | none=>
  have iA:∀ b,b∉ts->(λ b=>if b∈ts then some (HO.oM #[]) else if b=a then some (HO.k9 { cls:=.type "list",data:=.seq vs.toArray } (.lst (ns.map V.int))) else none) b=if b=a then some (HO.k9 { cls:=.type "list",data:=.seq vs.toArray } (.lst (ns.map V.int))) else none:=λ b hb=>if_neg hb
  refine core (λ b=>if b∈ts then some (.oM #[]) else if b=a then some (.k9 { cls:=.type "list",data:=.seq vs.toArray } (.lst (ns.map V.int))) else none) ⟨λ q hq=>if_pos hq,λ b hn=>?_⟩ (.inl (.inr ⟨{ cls:=.type "list",data:=.seq vs.toArray },(iA a nat).trans (if_pos rfl)⟩)) (λ b u z=>?_) (λ b z=>?_) λ _=>hk
  ·by_cases hb:b=a
   ·exact .inr ⟨_,_,(iA b hn).trans (if_pos hb)⟩
   ·exact .inl ((iA b hn).trans (if_neg hb))
  ·by_cases hn:b∈ts
   ·exact tok _ (λ q hq=>if_pos hq) b hn u z
   ·by_cases hb:b=a
    ·have z':=((iA b hn).trans (if_pos hb)).symm.trans z
     cases z'
     subst hb
     exact⟨ha,by rw[List.length_map];exact hl,vs,_,rv,ha⟩
    ·have z':=((iA b hn).trans (if_neg hb)).symm.trans z
     cases z'
  ·by_cases hn:b∈ts
   ·exact .inr hn
   ·by_cases hb:b=a
    ·exact .inl hb
    ·exact absurd ((iA b hn).trans (if_neg hb)) z
theorem zm {l:PySem.W.OpenLaw}{n k:Nat}{q:Program}{loose:List Str}{XP:(Str->Option Value)->Heap->Prop}{YP:World->Heap->Prop}{d:DefRec}{K:Params->PySem.W.Frag}{CX:World->yU}{sp:World->Sp}{x:Str}(ts:List Addr)
  (hn:l.most=some n) (CF:n<=sizeLine) (LW:d.params.defaults=[]) (hr:cX k callerA)
  (hY:∀ (w:World) (h:Heap),YP w h->(K w.params).In h) (hT:∀ (w:World) (h:Heap),YP w h->∀ q∈ts,h.get? q=some (PySem.W.tabObj #[]))
  (L':∀ (w:World) (h:Heap),YP w h->∀ q∈ts,isCodeTable h q) (L_:∀ (w:World) (h:Heap),(K w.params).In h->∀ q∈ts,(K w.params).lookup q=none)
  (F:∀ (w:World) (mg:Str->Option Value) (fa:Addr) (h:Heap),(K w.params).In h->h.Ns mainGlobals mg->mg d.name=some (.ref fa)->
   ∃ fd:FuncData,(∀ (s:Shared) (u:Value),BindsTo s fd ⟨[u],[]⟩ [(x,u)])/\
    ∀ base:Heap,(K w.params).In base->base.Ns mainGlobals mg->gA l.prog w (K w.params) mg base (CX w) k fa fd [x] (sp w))
  (JH:∀ (w:World) (H:Hp) (a:Addr) (ns:List Int),ns.length<=n->xI ts H->fh (K w.params) H a (ns.map V.int)->sp w [.ref a] H (λ v _=>v=.bl true) λ _ _ _=>False)
  (P4:∀ (w:World) (H:Hp) (s:Shared) (e:Value) (s':Shared),CX w [] H s (λ _ _ _=>False) e s'->False) :
  PySem.W.WalkO q loose XP YP l.row.toRowW d [] (λ f vs=>PySem.call f vs):=by
 refine Rn.ve hn LW λ w gS s₁ mg mb fa o pm cd doc a vs ns G Y ho hd xj LP IX hints hlen hg=>?_
 have KX:=hY w _ Y
 obtain⟨fd,hb,hF⟩:=F w mg fa _ KX G.T.g LP
 exact yn KX (hT w _ Y) (L' w _ Y) (L_ w _ KX) G.T.g G.T.b G.T.builtins G.T.nolimit G.T.nodigits G.T.bmain hg IX hints (Nat.le_trans hlen CF) hr hF hb (λ H hO hS=>JH w H a ns hlen hO hS) λ H e s'=>P4 w H s₁ e s'
end L2
namespace Mm
open PySem L2
def tabAt (i:Nat)(q:Str):AO->Bool
 | .tab j r=>decide (j=i/\r=q)
 | _=>false
theorem xS {i:Nat}{q:Str}{o:AO}(h:tabAt i q o=true):o=.tab i q:=by
 cases o with
 | tab j r=>have h:=of_decide_eq_true h;rw[h.1,h.2]
 | _=>cases h
def qa (i:Nat)(q:Str)(m:Ev):dY:=λ env s=>(m env s).bind λ v s1=>match v with
 | .ref k=>need (ak s1 k) λ l=>if l.isEmpty=true/\s1.any (tabAt i q)=true then .ok [] s1 else .bad
 | _=>.bad
section
variable {T:Tx}{XE:gI}{X:Cx}{pos:Pos}
theorem AZ {e:Expr}{p kp lp:Pos}{params:Arguments}{body:Expr}{scope:Scope}{c i:Nat}{q:Str}{m:Ev}(hm:X.mg "sorted"=none)(rK:X.env.code=.ref c)(hC:PySem.W.codeHdIn T.K c (T.cl i)=true) (h:PE X e (tE T XE m))
  (hK:X.K=T.K:=by rfl) (hq:X.env.qual++"<lambda>"=q:=by rfl) (JN:closureFor scope X.env=pure []:=by rfl) (Bz:defaultsOf params X.env=([],[]):=by rfl) (hg:Gl X "sorted":=by rfl)
  (hs:starEach [e] X.env=(false,eval e X.env) :: starEach [] X.env:=by rfl) (NI:backTo pos (starEach [e] X.env)=(false,eval e X.env) :: backTo pos (starEach [] X.env):=by rfl) (fe:(backTo pos (starEach [e] X.env)).any (·.1)=false:=by rfl) :
  PE X (.Call (.Name "sorted" p) [e] [⟨some (Str.ofString "key"),.Lambda params body scope lp,kp⟩] pos) (tL T XE (qa i q m)):=
 PE.imp (Af (P:=T.cl i) (q:=q) h hm rK (by rw[hK];exact hC) hq JN Bz hg hs NI fe) λ σ H Q ⟨ρ,env,s,hs,he,ho⟩=>step hs he ho λ v s1 ρ1 H1 x _ u1 aL cb aI ay=>by
  cases v with
  | ref k=>
   obtain⟨l,e1,cU⟩:=ay.ao
   obtain⟨⟨hl,ht⟩,jH⟩:=cU.a7
   obtain⟨a,vs,rfl,ea,h1,kk⟩:=aL.eA (aw e1) aI
   have hl:l=[]:=by simpa using hl
   subst hl
   cases kk.nil_inv
   obtain⟨o,ho,Sh⟩:=List.any_eq_true.mp ht
   cases xS Sh
   obtain⟨j,hj,ej⟩:=List.getElem_of_mem ho
   obtain⟨P,e2,rfl,ps,h2,h3⟩:=aL.obj j _ (by rw[List.getElem?_eq_getElem hj,ej])
   refine⟨a,rfl,h1,⟨ps,h2,h3⟩,λ H2 d k2 hd=>?_⟩
   have nP:∀ b o,H1 b=some o->o≠.oM ps->b≠T.cl i:=λ b o e n z=>by subst z;rw[h2]at e;exact n (Option.some.inj e).symm
   have mP:T.cl i∈ρ1:=List.mem_of_getElem? e2
   have up:Up ρ1 H1 ρ1 H2:=⟨⟨List.prefix_rfl,λ b xs e=>k2.keep b _ e (nP b _ e (λ z=>nomatch z)),λ b o u e=>k2.keep b _ e (nP b _ e (λ z=>nomatch z))⟩,λ b o e n=>⟨k2.keep b o e λ z=>n (z ▸ mP),n⟩,k2.live⟩
   have fA:SR T ρ1 s1 H2:=⟨aL.nd,aL.len,λ i' o' e'=>by
    obtain⟨b,e3,q3⟩:=aL.obj i' o' e'
    by_cases hb:b=T.cl i
    ·subst hb
     have qk:i'=j:=by
      have l1:=(List.getElem?_eq_some_iff.mp e3).1
      have l2:=(List.getElem?_eq_some_iff.mp e2).1
      rw[List.getElem?_eq_getElem l1]at e3
      rw[List.getElem?_eq_getElem l2]at e2
      have e4:=(Option.some.inj e3).trans (Option.some.inj e2).symm
      have pw:=List.pairwise_iff_getElem.mp aL.nd
      rcases Nat.lt_trichotomy i' j with z|z|z
      ·exact(pw _ _ l1 l2 z e4).elim
      ·exact z
      ·exact(pw _ _ l2 l1 z e4.symm).elim
     subst qk
     rw[List.getElem?_eq_getElem hj,ej]at e'
     cases e'
     exact⟨_,e3,rfl,k2.tab⟩
    ·obtain⟨u,eu⟩:=q3.ex
     exact⟨b,e3,q3.up up.toGr ((k2.keep b u eu hb).trans eu.symm)⟩⟩
   exact(Out.up up jH).lst fA hd .nil
  | _=>exact ay.elim
end
end Mm
namespace Ro
open PySem L2 Mm
structure Nf (T:Tx)(mg:Str->Option Value)(x:Str)(st:Stmt)(i:Nat):Prop where
 ex:∃ f fd c,Cu T.K x x st f fd/\mg x=some (.ref f)/\fd.code=.ref c/\PySem.W.codeHdIn T.K c (T.cl i)=true
section
variable {P:Program}{w:World}{T:Tx}{mg:Str->Option Value}{base:Heap}
theorem Jh {x:Str}{st:Stmt}{k n i:Nat}{body:Ms}(N:List Str)(D:Nf T mg x st i)(S:iy N (N.take n) (ax st))
  (hb:∀ (kV doc pm:Value) (an:Option Addr) (dD ct:Value) (us:List Value),us.length=(N.take n).length->bindArgs (PySem.W.fnOf x x (cO st) (bL st) (ax st) .none kV doc pm an dD ct) ⟨us,[]⟩=pure ((N.take n).zip us)) (hn:(N.take n).length=n)
  (h:∀ (f:Addr) (c:Addr) (A:Around) (outer:List Env) (s:Shared) (H:Hp) (E:XK),PySem.W.codeHdIn T.K c (T.cl i)=true->cX k (A.deeper (PyProof.Rows.envOfC x (ax st) s.heap.objs.size f (.ref c)))->N.Nodup->Ls T (jE (nM P w) P w T.K mg base N x (ax st) f (.ref c) A outer s H E) (kQ T E)->kA (jE (nM P w) P w T.K mg base N x (ax st) f (.ref c) A outer s H E) (bL st) (tS T (kQ T E) body)) :
  gJ P w T mg base x n (k+1) (eB N.length body):=by
 obtain⟨f,fd,c,F,m,ec,hC⟩:=D.ex
 have key:gA P w T.K mg base (nM P w) (k+1) f fd (N.take n) (yO T (N.take n).length (eB N.length body)):=by
  obtain⟨oc,od,kV,doc,pm,an,dD,ct,qv,rfl,lk,xj⟩:=F.ex
  have ec:dD=.ref c:=ec
  subst ec
  refine Gg lk xj S (λ vs H Q E h=>h.1) λ A outer s H vs Q E hr ⟨hl,ρ,om,args,sr,va,ho⟩=>?_
  refine⟨_,h f c A outer s H E hC hr S.nd uG,ρ,_,om,sr,uS N va,?_⟩
  unfold eB at ho
  cases e:body (args.map some++List.replicate (N.length - args.length) none) om with
  | nx e1 s1=>simp only[e]at ho;exact λ ρ2 H2 σ2 u sr er=>ho ρ2 H2 .az u sr (mT (T:=T) (ρ:=ρ2) (H:=H2))
  | rt v s1=>simp only[e]at ho;exact ho
  | ex c s1=>simp only[e]at ho;exact ho
  | bk v s1=>simp only[e]at ho;exact ho.elim
  | ct v s1=>simp only[e]at ho;exact ho.elim
  | bad=>simp only[e]at ho;exact ho.elim
 rw[hn]at key
 exact⟨f,fd,_,key,F.binds hb,m,F.kp⟩
def spT (K:PySem.W.Frag)(ts:List Addr)(tq:List (Nat × Str)) (fl:List AV->S->R AV):Sp:=λ vs H Q E=>vs.length=1/\∀ cl,(tq.map λ p=>cl p.1)=ts->yO ⟨K,cl⟩ 1 fl vs H Q E
def tabS (tq:List (Nat × Str)):S:=tq.map λ p=>.tab p.1 p.2
theorem C_ {K:PySem.W.Frag}{ts:List Addr}{tq:List (Nat × Str)}{H:Hp}{a:Addr}{ns:List Int}{E:XK}{fl:List AV->S->R AV}(nd:ts.Nodup)(hl:(fl [.sq (ns.map AV.int)] (tabS tq)).wp λ v _=>v=.bl true) (hO:xI ts H)(hS:fh K H a (ns.map V.int)):spT K ts tq fl [.ref a] H (λ v _=>v=.bl true) E:=by
 have hF:Gs K H a (ns.map V.int):=by
  rcases hS with h|h
  ·rcases h with h|h
   ·by_cases ht:a∈ts
    ·rw[hO.1 a ht]at h;cases h
    ·rcases hO.2 a ht with z|⟨o,xs,z⟩
     ·rw[z]at h;cases h
     ·rw[z]at h;cases h
   ·exact .inl h
  ·exact .inr h
 refine⟨rfl,λ cl ec=>⟨rfl,ts,tabS tq,[.sq (ns.map AV.int)],⟨nd,by rw[<-ec];simp[tabS],λ i o e=>?_⟩,?_,?_⟩⟩
 ·unfold tabS at e
  rw[List.getElem?_map]at e
  cases q:tq[i]? with
  | none=>rw[q]at e;cases e
  | some p=>
   rw[q]at e
   cases e
   have e2:ts[i]? = some (cl p.1):=by rw[<-ec,List.getElem?_map,q];rfl
   exact⟨_,e2,rfl,#[],hO.1 _ (List.mem_of_getElem? e2),trivial,λ pos cv z=>by cases z⟩
 ·unfold aJ
  refine⟨_,_,rfl,?_,by unfold aJ;rfl⟩
  unfold VR
  exact⟨a,_,rfl,hF,aJ.map (λ i=>dZ) ns⟩
 ·obtain⟨v,s',e,rfl⟩:=hl.get
  rw[e]
  intro ρ' H' x _ _ hx
  have hx:VR ⟨K,cl⟩ ρ' H' (.bl true) x:=hx
  unfold VR at hx
  exact hx
theorem Ff {l:PySem.W.OpenLaw}{w:World}{K:PySem.W.Frag}{cl:Nat->Addr}{ts:List Addr}{tq:List (Nat × Str)}{mg:Str->Option Value}{fa:Addr}{st:Stmt}{k:Nat}{fl:List AV->S->R AV}(PN:mg "law"=some (.ref fa)) (ec:(tq.map λ p=>cl p.1)=ts) (D:Df ⟨K,cl⟩ mg "law" st)
  (hb:∀ (s:Shared) (v kV doc pm:Value) (an:Option Addr) (dD ct:Value),BindsTo s (PySem.W.fnOf "law" "law" (cO st) (bL st) (ax st) .none kV doc pm an dD ct) ⟨[v],[]⟩ [("_law_script",v)])
  (F:∀ (base:Heap) (f:Addr) (fd:FuncData),Cu K "law" "law" st f fd->gA l.prog w K mg base (nM l.prog w) k f fd ["_law_script"] (yO ⟨K,cl⟩ 1 fl)) :
  ∃ fd:FuncData,(∀ (s:Shared) (v:Value),BindsTo s fd ⟨[v],[]⟩ [("_law_script",v)])/\∀ base:Heap,K.In base->base.Ns mainGlobals mg->gA l.prog w K mg base (nM l.prog w) k fa fd ["_law_script"] (spT K ts tq fl):=by
 obtain⟨f,fd,G,m⟩:=D.ex
 cases m.symm.trans PN
 refine⟨fd,?_,λ base _ _=>(F base _ _ G).imp λ vs H Q E h=>h.2 cl ec⟩
 obtain⟨oc,od,kV,doc,pm,an,dD,ct,qv,rfl,lk,xj⟩:=G.ex
 exact λ s v=>hb s v kV doc pm an dD ct
end
theorem J0 {l:PySem.W.OpenLaw}{q:Program}{loose:List Str}{XP:(Str->Option Value)->Heap->Prop}{YP:World->Heap->Prop}{d:DefRec}{K:Params->PySem.W.Frag}(ts:List Addr)(tq:List (Nat × Str)) (fl:List AV->S->R AV)(k:Nat)(nd:ts.Nodup)(hk:cX k callerA)(hl:∀ ns:List Int,(fl [.sq (ns.map AV.int)] (tabS tq)).wp λ v _=>v=.bl true) (hn:l.most=some 63)(LW:d.params.defaults=[])
  (hY:∀ (w:World) (h:Heap),YP w h->(K w.params).In h) (hT:∀ (w:World) (h:Heap),YP w h->∀ q∈ts,h.get? q=some (PySem.W.tabObj #[]))
  (L':∀ (w:World) (h:Heap),(K w.params).In h->∀ q∈ts,∃ c,PySem.W.codeHdIn (K w.params) c q=true) (L_:∀ (w:World) (h:Heap),(K w.params).In h->∀ q∈ts,(K w.params).lookup q=none)
  (F:∀ (w:World) (mg:Str->Option Value) (fa:Addr) (h:Heap),(K w.params).In h->h.Ns mainGlobals mg->mg d.name=some (.ref fa)->
   ∃ fd:FuncData,(∀ (s:Shared) (u:Value),BindsTo s fd ⟨[u],[]⟩ [("_law_script",u)])/\∀ base:Heap,(K w.params).In base->base.Ns mainGlobals mg->gA l.prog w (K w.params) mg base (nM l.prog w) k fa fd ["_law_script"] (spT (K w.params) ts tq fl)) :
  PySem.W.WalkO q loose XP YP l.row.toRowW d [] (λ f vs=>PySem.call f vs):=
 L2.zm ts (n:=63) (x:="_law_script") (CX:=λ w=>nM l.prog w) (sp:=λ w=>spT (K w.params) ts tq fl) hn (by decide) LW hk hY hT (λ w h Y q hq=>by
  obtain⟨c,e⟩:=L' w h (hY w h Y) q hq
  exact((PySem.W.codeHd_of_K (hY w h Y) e).tab (hT w h Y q hq)).isCodeTable) L_ F (λ w H a ns _ hO hS=>C_ nd (hl ns) hO hS) λ _ _ _ _ _ ⟨_,_,_,_,_,_,_,_,_,_,z⟩=>z
end Ro
namespace Mm
open PySem L2
section
variable {T:Tx}{XE:gI}{X:Cx}{pos:Pos}
theorem set_dict (hu:X.A.units+1 < cLine):Jy X (λ o i v H Q=>∃ a H',o=.ref a/\wx H a i v H'/\Q H'):=by
 rintro pins s σ H o i v ov iv u Q I ro ri rv ⟨a,H',rfl,g,q⟩
 obtain rfl:ov=Value.ref a:=ro
 exact rT hu I g ri rv λ s4 I4=>⟨H',I4,q⟩
def p_ (o i:Ev):Mt:=λ v env s=>(o env s).dI λ a s1=>(i env s1).dI λ b s2=>putD v a b env s2
theorem Ep {o i:Expr}{m n:Ev}(hu:X.A.units+1 < cLine)(ho:PE X o (tE T XE m)) (hi:PE X i (tE T XE n))
  (ha:∀ v,assign (.Subscript o i pos) X.env v=(do
   let ov <-holding [v] (eval o X.env)
   let iv <-holding [v,ov] (eval i X.env)
   standAt pos
   holding [v,ov,iv] (setItem ov iv v)
   release [v,ov,iv] []):=by intro _;rfl):PG X (.Subscript o i pos) (tT T XE (p_ m n)):=
 PG.imp (Ad ho hi (set_dict hu) ha) λ x σ H Q ⟨ρ,env,s,v,hs,he,vr,ho⟩=>by
  refine fm hs he ho λ a s1 ρ1 H1 y _ u1 aL cb aI ay=>fm aL cb ay λ b s2 ρ2 H2 z _ u2 fA lQ iz cU=>?_
  have aI:VR T ρ2 H2 a y:=VR.up u2 aI
  have iz:VR T ρ2 H2 b z:=iz
  have vr:VR T ρ2 H2 v x:=VR.up (u1.trans u2) vr
  unfold putD at cU
  split at cU
  ·split at cU
   ·rename_i i kvs k e1 e2
    obtain⟨hl,jH⟩:=cU.a7
    obtain⟨a,ks,rfl,ea,h1,q1,q2⟩:=fA.qE (fP e1) aI
    have JK:kvs.length=ks.length:=by have:=congrArg List.length q1;simpa using this
    refine⟨a,_,rfl,by rw[fU e2 iz];exact wx.k h1 (by rw[<-JK];exact hl),?_⟩
    obtain⟨p1,p2⟩:=sF k vr q1 q2
    have up:Up ρ2 H2 ρ2 (upd H2 a (.dK (putK ks k x))):=fA.qN ea h1 (λ _ z=>nomatch z) (λ _ _ z=>nomatch z)
    exact jH ρ2 _ σ up (fA.set ea up ⟨_,av,p1,p2.up up⟩) (lQ.up up)
   ·exact cU.elim
  ·exact cU.elim
theorem DY {o i:Ev}:kB (p_ o i):=λ v env s=>by
 unfold p_
 cases o env s with
 | bad=>exact .inr (.inr rfl)
 | ex c s1=>exact .inr (.inl ⟨_,_,rfl⟩)
 | ok a s1=>
  simp only[ja]
  cases i env s1 with
  | bad=>exact .inr (.inr rfl)
  | ex c s1=>exact .inr (.inl ⟨_,_,rfl⟩)
  | ok b s2=>
   simp only[ja]
   unfold putD
   split
   ·split
    ·split
     ·exact .inl ⟨_,_,rfl⟩
     ·exact .inr (.inr rfl)
    ·exact .inr (.inr rfl)
   ·exact .inr (.inr rfl)
theorem OV (hu:X.A.units+1 < cLine):hU X (compareOp .In) (qj T XE jT):=by
 intro pins s σ H x y v u Q I rx ry ⟨ρ,a,b,st,sr,va,vb,ho⟩
 cases b with
 | ref i=>
  obtain⟨kvs,e1,cU⟩:=ho.ao
  obtain⟨k,e2,jH⟩:=cU.ao
  obtain⟨p,ks,rfl,ea,h1,q1,q2⟩:=sr.qE (fP e1) vb
  have vk:=fU e2 va
  obtain rfl:u=Value.ref p:=ry
  refine Mu (o:=gR ks k) hu I (by rw[vk];exact jz.k h1) rx λ s' I'=>⟨.bl (gR ks k).isSome,H,I',rfl,?_⟩
  have:(gR ks k).isSome=(aP kvs k).isSome:=by
   cases ev:aP kvs k with
   | none=>rw[(dQ k q1 q2).2 ev];rfl
   | some z=>obtain⟨x',ex,_⟩:=(dQ k q1 q2).1 z ev;rw[ex];rfl
  rw[this]
  exact jH.aK sr dm
 | _=>exact ho.elim
def pG (v w:AV)(s:S):R AV:=match w with
 | .ref i=>if (gC s i).isSome=true then jT v (.ref i) s else qw v (.ref i) s
 | _=>.bad
theorem K6 (hK:X.K=T.K)(hu:X.A.units+1 < cLine):hU X (compareOp .In) (qj T XE pG):=by
 intro pins s σ H x y v u Q I rx ry ⟨ρ,a,b,st,sr,va,vb,ho⟩
 unfold pG at ho
 split at ho
 ·split at ho
  ·exact OV (T:=T) (XE:=XE) hu pins s σ H x y v u Q I rx ry ⟨ρ,a,_,st,sr,va,vb,ho⟩
  ·exact OU (T:=T) (XE:=XE) hK pins s σ H x y v u Q I rx ry ⟨ρ,a,_,st,sr,va,vb,ho⟩
 ·exact ho.elim
def ra (v w:AV)(s:S):R AV:=match v,w with
 | .tup _,.str _=>.ok (.bl true) s
 | .ref i,.str _=>need (ak s i) λ _=>.ok (.bl true) s
 | v,w=>ou v w s
theorem KZ (hK:X.K=T.K)(hu:X.A.units+30 < cLine):hU X (compareOp .NotEq) (qj T XE ra):=by
 intro pins s σ H x y v u Q I rx ry ⟨ρ,a,b,st,sr,va,vb,ho⟩
 have CB:X.A.units < cLine:=by omega
 unfold ra at ho
 split at ho
 ·obtain⟨p,vs,rfl,h1,k⟩:=va.cK
  cases vb.str_inv
  obtain⟨t,rfl⟩:=ry
  cases rx
  obtain⟨its,_,p1,_⟩:=I.tuple (hK ▸ h1)
  exact SeqAt.RcNeAt.tuple_str _ _ p1 CB X.prog X.w _ _ ⟨.bl true,H,I,rfl,ho.aK sr dm⟩
 ·obtain⟨xs,e,ho⟩:=ho.ao
  obtain⟨p,vs,rfl,_,h1,k⟩:=sr.eA (aw e) va
  cases vb.str_inv
  obtain⟨t,rfl⟩:=ry
  cases rx
  obtain⟨its,_,p1,_⟩:=I.list (fh.of h1)
  exact SeqAt.RcNeAt.list_str _ _ p1.isList CB X.prog X.w _ _ ⟨.bl true,H,I,rfl,ho.aK sr dm⟩
 ·exact OS (T:=T) (XE:=XE) hK hu pins s σ H x y v u Q I rx ry ⟨ρ,a,b,st,sr,va,vb,ho⟩
theorem vx {k:List (Option Expr)}{v:List Expr}{p:Pos}{x:Str}{q:Pos}{n:Nat}{env:Env}:swapsWith (.Dict k v p) (some (.Name x q)) n env=pure false:=rfl
theorem Ec {i:Nat}{x:Str}{k:List (Option Expr)}{v:List Expr}{p pos':Pos}{l:List (Ev × Ev)}(hN:X.N.Nodup)(he:PE X (.Dict k v p) (tE T XE (jB l))) (hi:X.N[i]? = some x)(hx:Loc X.env.scope x)(hf:X.fn x=true∨X.env.scope.names.lookup x=some .local) :
  PS X (.Assign [.Name x pos'] (.Dict k v p) pos) (tS T XE (cw i (jB l))):=AR hN he hi hx vx hf
end
end Mm
namespace Ro
open PySem L2 Mm
def cu (l t:List Addr)(i:Nat):Addr:=if i < 20 then l.getD i 0 else t.getD (i - 20) 0
theorem Ld {K:PySem.W.Frag}{C:Addr}{nm:Str}{bm:List Value}{lU:Option Value}(x:hJ K C nm bm lU)(ga:PySem.W.findIn K (.ref C) "__getattribute__"=some (some (.builtin "BaseException.__getattribute__"))) (gx:PySem.W.findIn K (.ref C) "__getattr__"=some none) (ca:PySem.W.findIn K (.ref C) "__class__"=some (some (.builtin "object.__class__")))
  (cn:PySem.W.specialIn K (.builtin "object.__class__") "__get__"=some (some (.builtin "getset_descriptor.__get__"))) (ct:PySem.W.takesIn K (.builtin "object.__class__")=some true):FD K C:=by
 have has:∀ {l:List Value},mO K l->l.contains (.type "BaseException")=true/\l.contains (.type "object")=true:=by
  intro l t
  induction t with
  | base=>exact⟨by decide +kernel,by decide +kernel⟩
  | own _ _ _ _ ih=>rw[List.contains_cons,List.contains_cons,ih.1,ih.2];exact⟨Bool.or_true _,Bool.or_true _⟩
 refine { ga:=ga,gx:=gx,sb:=?_,ca:=ca,cn:=cn,ct:=ct,cm:=?_,cl:=x.FX }
 ·rw[x.mro,List.contains_cons,(has x.tail).1,Bool.or_true]
 ·show PySem.W.subIn K (.ref C) (.type "object")=some true
  rw[x.mro,List.contains_cons,(has x.tail).2,Bool.or_true]
structure t9 (K:PySem.W.Frag)(mg:Str->Option Value)(C:Addr)(nm:Str)(bm:List Value)(lU:Option Value):Prop where
 tl:mO K bm->hJ K C nm bm lU/\(lU=none->mO K (.ref C :: bm))
 is:hJ K C nm bm lU->FD K C
 kp:PySem.W.keepIn K (.ref C)=true
 gl:mg nm=some (.ref C)
theorem lV {K:PySem.W.Frag}{h:Heap}{mg:Str->Option Value}{C N:Addr}{nm q:Str}{bm bs sub:List Value}{sn:List Str}{ab:Bool}{col:Option Bool}{dd nd:Option Addr}{ka kb kc kd ke lU:Option Value}{nc:Value}{es:Array DictEntry}{ep:Nat}{Nr:Array (Option Value)}(X:K.In h)(G:h.Ns mainGlobals mg)
  (a:PySem.W.nsIn K mainGlobals nm=some (some (.ref C))) (l:K.lookup C=some (excClassObj nm q C N bs bm true sn sub ab col dd ka kb kc kd ke "ValueError.__new__")) (n:K.lookup N=some ⟨nc,nd,.dict es ep,Nr⟩) (s:zB es=true) (k:PySem.W.keepIn K (.ref C)=true)
  (ga:PySem.W.findIn K (.ref C) "__getattribute__"=some (some (.builtin "BaseException.__getattribute__"))) (gx:PySem.W.findIn K (.ref C) "__getattr__"=some none) (ca:PySem.W.findIn K (.ref C) "__class__"=some (some (.builtin "object.__class__")))
  (cn:PySem.W.specialIn K (.builtin "object.__class__") "__get__"=some (some (.builtin "getset_descriptor.__get__"))) (ct:PySem.W.takesIn K (.builtin "object.__class__")=some true) (i:nsFind es "__init__"=lU):t9 K mg C nm bm lU:=
 ⟨λ t=>⟨⟨⟨_,_,_,_,_,_,_,_,_,_,_,_,_,_,l,⟨_,_,_,_,_,n,s,λ _=>rfl⟩,i⟩,t⟩,λ e=>.own l ⟨_,_,_,_,_,n,s,λ _=>rfl⟩ (i.trans e) t⟩,λ x=>Ld x ga gx ca cn ct,k,PySem.W.mg_of X G a⟩
theorem JX {K:PySem.W.Frag}{mg:Str->Option Value}{c0 c1 c2 c3 c4 c5 c6 c7 c8:Addr}{r t:List Addr}{i7 i8:Option Value}(x0:t9 K mg c0 "RoyalError" oY none)(x1:t9 K mg c1 "BadFraction" (.ref c0 :: oY) none) (x2:t9 K mg c2 "Taken" (.ref c0 :: oY) none) (x3:t9 K mg c3 "NoName" (.ref c0 :: oY) none) (x4:t9 K mg c4 "TooMuch" (.ref c0 :: oY) none) (x5:t9 K mg c5 "NoRate" (.ref c0 :: oY) none) (x6:t9 K mg c6 "NoneLeft" (.ref c0 :: oY) none) (x7:t9 K mg c7 "Endless" (.ref c0 :: oY) i7) (x8:t9 K mg c8 "BadRow" (.ref c0 :: oY) i8) :
  Xs ⟨K,cu (c0 :: c1 :: c2 :: c3 :: c4 :: c5 :: c6 :: c7 :: c8 :: r) t⟩ mg:=by
 obtain⟨y0,Ry⟩:=x0.tl .base
 have t0:=Ry rfl
 have y1:=(x1.tl t0).1
 have y2:=(x2.tl t0).1
 have y3:=(x3.tl t0).1
 have y4:=(x4.tl t0).1
 have y5:=(x5.tl t0).1
 have y6:=(x6.tl t0).1
 have y7:=(x7.tl t0).1
 have y8:=(x8.tl t0).1
 have FC:∀ {p:Nat->Prop},p 0->p 1->p 2->p 3->p 4->p 5->p 6->p 7->p 8->∀ i,i < 9->p i:=λ {p} h0 h1 h2 h3 h4 h5 h6 h7 h8 i hi=>by
  match i,hi with
  | 0,_=>exact h0
  | 1,_=>exact h1
  | 2,_=>exact h2
  | 3,_=>exact h3
  | 4,_=>exact h4
  | 5,_=>exact h5
  | 6,_=>exact h6
  | 7,_=>exact h7
  | 8,_=>exact h8
  | n+9,h=>exact absurd h (by omega)
 refine⟨FC ⟨_,y0,λ _=>rfl⟩ ⟨_,y1,λ _=>rfl⟩ ⟨_,y2,λ _=>rfl⟩ ⟨_,y3,λ _=>rfl⟩ ⟨_,y4,λ _=>rfl⟩ ⟨_,y5,λ _=>rfl⟩ ⟨_,y6,λ _=>rfl⟩ ⟨_,y7,λ h=>absurd h (by omega)⟩ ⟨_,y8,λ h=>absurd h (by omega)⟩,
  FC (x0.is y0) (x1.is y1) (x2.is y2) (x3.is y3) (x4.is y4) (x5.is y5) (x6.is y6) (x7.is y7) (x8.is y8),FC x0.kp x1.kp x2.kp x3.kp x4.kp x5.kp x6.kp x7.kp x8.kp,FC x0.gl x1.gl x2.gl x3.gl x4.gl x5.gl x6.gl x7.gl x8.gl⟩
structure NY (K:PySem.W.Frag)(C:Addr)(fs:List Str):Prop where
 c:vh K C
 na:∀ f∈fs,iP K C f
theorem M9 {K:PySem.W.Frag}{C:Addr}{fs:List Str}{nm:Str}(a:PySem.W.nsIn K mainGlobals nm=some (some (.ref C))) (pg:PySem.W.plainGet K C Str.empty=true)(hd:PySem.W.hasDictIn K C=true)(po:PySem.W.plainOver K C=true)(sa:PySem.W.findIn K (.ref C) "__setattr__"=some (some (.builtin "object.__setattr__"))) (na:∀ f∈fs,PySem.W.findIn K (.ref C) f=some none):NY K C fs:=⟨⟨pg,hd,po,sa⟩,na⟩
theorem NY.bk {T:Tx}{C:Addr}{c:Nat}{fs:List Str}(h:NY T.K C fs)(e:T.cl c=C):Bk T c fs:=⟨by rw[e];exact h.c,λ f hf=>by rw[e];exact h.na f hf⟩
theorem cW {K:PySem.W.Frag}{cl:Nat->Addr}{c:Nat}{C:Addr}{m qual:Str}{st:Stmt}{f:Addr}{oc:Value}{od an:Option Addr}{qv:Array (Option Value)}{kV doc pm dD ct:Value}(e:cl c=C)(a:PySem.W.findIn K (.ref C) m=some (some (.ref f)))
  (l:K.lookup f=some ⟨oc,od,.func (PySem.W.fnOf m qual (cO st) (bL st) (ax st) .none kV doc pm an dD ct),qv⟩) (cd:PySem.W.codeIn K dD qual=true) (k:PySem.W.keepIn K (.ref f)=true) (fn:PySem.W.isFn K (.ref f)=true):fz ⟨K,cl⟩ c m qual st:=
 ⟨f,_,tu l cd k,by show Meth K (cl c) m f;rw[e];exact⟨a,fn,k⟩⟩
theorem Jn {K:PySem.W.Frag}{cl:Nat->Addr}{h:Heap}{mg:Str->Option Value}{c:Nat}{C:Addr}{nm qual:Str}{st:Stmt}{f:Addr}{oc:Value}{od an:Option Addr}{qv:Array (Option Value)}{kV doc pm dD ct:Value}(X:K.In h)(G:h.Ns mainGlobals mg)(e:cl c=C)(g:PySem.W.nsIn K mainGlobals nm=some (some (.ref C))) (a:PySem.W.findIn K (.ref C) "__init__"=some (some (.ref f)))
  (l:K.lookup f=some ⟨oc,od,.func (PySem.W.fnOf "__init__" qual (cO st) (bL st) (ax st) .none kV doc pm an dD ct),qv⟩) (cd:PySem.W.codeIn K dD qual=true) (k:PySem.W.keepIn K (.ref f)=true) (fn:PySem.W.isFn K (.ref f)=true) (mk:PySem.W.makesIn K C=true) (kc:PySem.W.keepIn K (.ref C)=true):Ng ⟨K,cl⟩ mg c nm qual st:=
 ⟨f,_,tu l cd k,by show Mk K (cl c) f;rw[e];exact⟨mk,a,fn,kc⟩,by show mg nm=some (.ref (cl c));rw[e];exact PySem.W.mg_of X G g⟩
theorem Jm {K:PySem.W.Frag}{cl:Nat->Addr}{h:Heap}{mg:Str->Option Value}{x:Str}{st:Stmt}{i:Nat}{f cc P:Addr}{oc:Value}{od an:Option Addr}{qv:Array (Option Value)}{kV doc pm ct:Value}(X:K.In h)(G:h.Ns mainGlobals mg)(e:cl i=P)(a:PySem.W.nsIn K mainGlobals x=some (some (.ref f)))
  (l:K.lookup f=some ⟨oc,od,.func (PySem.W.fnOf x x (cO st) (bL st) (ax st) .none kV doc pm an (.ref cc) ct),qv⟩) (c:PySem.W.codeIn K (.ref cc) x=true) (k:PySem.W.keepIn K (.ref f)=true) (hc:PySem.W.codeHdIn K cc P=true):Nf ⟨K,cl⟩ mg x st i:=
 ⟨f,_,cc,tu l c k,PySem.W.mg_of X G a,rfl,by show PySem.W.codeHdIn K cc (cl i)=true;rw[e];exact hc⟩
theorem J7 {K:PySem.W.Frag}{x:Str}{st:Stmt}{f cc P:Addr}{oc:Value}{od an:Option Addr}{qv:Array (Option Value)}{kV doc pm ct:Value}(a:PySem.W.nsIn K mainGlobals x=some (some (.ref f)))
  (l:K.lookup f=some ⟨oc,od,.func (PySem.W.fnOf x x (cO st) (bL st) (ax st) .none kV doc pm an (.ref cc) ct),qv⟩) (hc:PySem.W.codeHdIn K cc P=true):∃ c,PySem.W.codeHdIn K c P=true:=⟨cc,hc⟩
theorem HK {p:Str->Prop}:∀ f∈([]:List Str),p f:=λ _ h=>nomatch h
def cq:AV:=.int 182
noncomputable def nJ:Ms:=
 (bh (aR (qa 20 "by_days.<locals>.<lambda>" (mv 0))))
noncomputable def dA:List AV->S->R AV:=eB 1 nJ
noncomputable def gz:Ms:=
 (aC (gW 9 "keeps" (mv 0) vj)
 (aC (gW 9 "rows" (mv 0) vj)
 (aC (gW 9 "hands" (mv 0) vj)
 (aC (gW 9 "makers" (mv 0) vj)
 (aC (gW 9 "rates" (mv 0) vj)
 (aC (gW 9 "half" (mv 0) (mc cq))
 (aC (gW 9 "money" (mv 0) (aR (dc ag)))
    (gW 9 "debts" (mv 0) (aR (dc ag))))))))))
noncomputable def bE:List AV->S->R AV:=eB 1 gz
noncomputable def cP:Ms:=
 (fS (cB (ae pI (mv 1) (cA (cY 9 "keeps") (mv 0)))) (FN 3 (aa (nV (hZ (mc (.str "no person is called ")) (hZ (cA pH (mv 1)) uM))) ag)) bR)
noncomputable def aH:List AV->S->R AV:=eB 2 cP
noncomputable def dF:Ms:=
 (fS (cB (ae pI (mv 1) (cA (cY 9 "rows") (mv 0)))) (FN 3 (aa (nV (hZ (mc (.str "no work is called ")) (hZ (cA pH (mv 1)) uM))) ag)) bR)
noncomputable def aU:List AV->S->R AV:=eB 2 dF
noncomputable def gy:Ms:=
 (bh (Nt (ae jT (mv 1) (cA (cY 9 "keeps") (mv 0))) (ae jT (mv 1) (cA (cY 9 "rows") (mv 0)))))
noncomputable def b_:List AV->S->R AV:=eB 2 gy
noncomputable def dG:Ms:=
 (fS (cT (aX 9 "has_name" 1 b_ (mv 0) (aa (mv 1) ag))) (FN 2 (aa (nV (hZ (mc (.str "a person or a work is called ")) (hZ (cA pH (mv 1)) (hZ (mc (.str " already")) uM)))) ag)) bR)
noncomputable def aV:List AV->S->R AV:=eB 2 dG
noncomputable def da:Ms:=
 (aC (bI (aX 9 "need_free" 1 aV (mv 0) (aa (mv 1) ag)))
    (jO (cA (cY 9 "keeps") (mv 0)) (mv 1) (mc kE)))
noncomputable def aZ:List AV->S->R AV:=eB 2 da
noncomputable def dX:Ms:=
 (aC (bI (aX 9 "need_free" 1 aV (mv 0) (aa (mv 1) ag)))
    (jO (cA (cY 9 "rows") (mv 0)) (mv 1) (jj ag)))
noncomputable def bD:List AV->S->R AV:=eB 2 dX
noncomputable def dO:Ms:=
 (bh (aR (lO (cA (cY 9 "keeps") (mv 0)))))
noncomputable def bB:List AV->S->R AV:=eB 1 dO
noncomputable def eX:Ms:=
 (bh (aR (lO (cA (cY 9 "rows") (mv 0)))))
noncomputable def bJ:List AV->S->R AV:=eB 1 eX
noncomputable def eY:Ms:=
 (aC (bI (aX 9 "need_work" 1 aU (mv 0) (aa (mv 1) ag)))
 (bh (ae bc (cA (cY 9 "rows") (mv 0)) (mv 1))))
noncomputable def bz:List AV->S->R AV:=eB 2 eY
noncomputable def dW:Ms:=
 (aC (bI (aX 9 "need_person" 1 aH (mv 0) (aa (mv 1) ag)))
 (bh (aR (cj [("giver",none),("day",none),("name",none),("part",none),("person",some 1)] (uo (nF (cA (cY 9 "hands") (mv 0)))) (gT 2 (aT (gT 2 (aT (gN 0) (aT (gN 1) ie))) (aT (gT 2 (aT (gN 2) (aT (gN 3) ie))) ie))) (cB (ae dM (mv 0) (mv 4))) (jj (aa (mv 1) (aa (mv 2) (aa (mv 3) ag))))))))
noncomputable def a_:List AV->S->R AV:=eB 2 dW
noncomputable def dU:Ms:=
 (aC (bI (aX 9 "need_work" 1 aU (mv 0) (aa (mv 1) ag)))
 (bh (rn (cA (cY 9 "makers") (mv 0)) (mv 1))))
noncomputable def a9:List AV->S->R AV:=eB 2 dU
noncomputable def fI:Ms:=
 (bh (aR (cj [("worth",none),("currency",none),("day",none)] (uo (nF (cA (cY 9 "rates") (mv 0)))) (gT 2 (aT (gT 2 (aT (gN 1) (aT (gN 2) ie))) (aT (gN 0) ie))) js (jj (aa (mv 1) (aa (mv 2) (aa (mv 0) ag)))))))
noncomputable def bT:List AV->S->R AV:=eB 1 fI
noncomputable def dS:Ms:=
 (aC (bI (aX 9 "need_person" 1 aH (mv 0) (aa (mv 1) ag)))
    (jO (cA (cY 9 "keeps") (mv 0)) (mv 1) (mv 2)))
noncomputable def bC:List AV->S->R AV:=eB 3 dS
noncomputable def e_:Ms:=
 (aC (bI (aX 9 "need_person" 1 aH (mv 0) (aa (mv 1) ag)))
 (bh (ae bc (cA (cY 9 "keeps") (mv 0)) (mv 1))))
noncomputable def bA:List AV->S->R AV:=eB 2 e_
noncomputable def gw:Ms:=
  (gW 9 "half" (mv 0) (mv 1))
noncomputable def bN:List AV->S->R AV:=eB 2 gw
noncomputable def fJ:Ms:=
 (bh (cA (cY 9 "half") (mv 0)))
noncomputable def bU:List AV->S->R AV:=eB 1 fJ
noncomputable def eZ:Ms:=
 (bh (aR (jZ (aD 1 dA (aa (cA (cY 9 "money") (mv 0)) ag)))))
noncomputable def bK:List AV->S->R AV:=eB 1 eZ
noncomputable def fK:Ms:=
 (bh (aR (jZ (aD 1 dA (aa (cA (cY 9 "debts") (mv 0)) ag)))))
noncomputable def bV:List AV->S->R AV:=eB 1 fK
noncomputable def gp:Ms:=
 (bh (aR (cj [("_law_day",none),("_law_k",none),("_law_some",some 0)] (uo (lN (cj [("_law_k",none),("_law_one",none)] (xV (mv 0)) (gT 2 (aT (gN 0) (aT (gN 1) ie))) js (jj (aa (ae bj (mv 1) (mc (.int 1))) (aa (mv 0) ag)))))) (gT 2 (aT (gN 0) (aT (gN 1) ie))) js (ae bj (mv 2) (mv 1)))))
noncomputable def bM:List AV->S->R AV:=eB 1 gp
noncomputable def gn:Ms:=
 (bh (ae cZ (aR (jZ (aD 2 dB (aa (mv 0) (aa (mc (.int 7)) ag))))) (aR (dc (aa (mc (.str "never")) ag)))))
noncomputable def b8:List AV->S->R AV:=eB 1 gn
noncomputable def nK:Ms:=
 (bh (ae bj (mv 1) (aD 2 aO (aa (mv 0) (aa (ua hX (aa (mv 1) ag)) ag)))))
noncomputable def gL:List AV->S->R AV:=eB 2 nK
noncomputable def ku:Ms:=
 (aC (cw 3 (aD 2 gL (aa (mv 0) (aa (mv 1) ag))))
 (aC (fS (cB (ae dM (mv 2) (mc (.str "half")))) (bh (jj (aa (mv 2) (aa (Ge (ae bj (aR (dc (aa (mc (.int 1)) (aa (mc (.int 400)) (aa (mc (.int 182)) (aa (ae cZ (mc (.int 1)) (aD 2 aO (aa (mv 0) (aa (mc (.int 400)) ag)))) ag)))))) (aD 2 aO (aa (mv 0) (aa (mc (.int 4)) ag))))) ag)))) bR)
 (aC (fS (cB (ae dM (mv 2) (mc (.str "keep")))) (bh (jj (aa (mv 2) (aa (mv 3) (aa (Ge (ae bj (aR (dc (aa (jj (aa (mc (.int 0)) (aa (mc (.int 1)) ag))) (aa (jj (aa (mc (.int 1)) (aa (mc (.int 1)) ag))) (aa (aD 1 du (aa (mv 0) ag)) (aa (aD 1 du (aa (mv 0) ag)) ag)))))) (aD 2 aO (aa (mv 0) (aa (mc (.int 4)) ag))))) ag))))) bR)
 (bh (jj (aa (mv 2) (aa (mv 3) ag)))))))
noncomputable def eF:List AV->S->R AV:=eB 4 ku
noncomputable def dE:Ms:=
 (fS (cB (ae dM (ae bj (mv 1) (mc (.int 0))) (mc (.str "person")))) (bI (aX 9 "add_person" 1 aZ (mv 0) (aa (ae bj (mv 1) (mc (.int 1))) ag))) (fS (cB (ae dM (ae bj (mv 1) (mc (.int 0))) (mc (.str "work")))) (bI (aX 9 "add_work" 1 bD (mv 0) (aa (ae bj (mv 1) (mc (.int 1))) ag))) (fS (cB (ae dM (ae bj (mv 1) (mc (.int 0))) (mc (.str "keep")))) (bI (aX 9 "put_keep" 2 bC (mv 0) (aa (ae bj (mv 1) (mc (.int 1))) (aa (ae bj (mv 1) (mc (.int 2))) ag)))) (bI (aX 9 "put_half" 1 bN (mv 0) (aa (ae bj (mv 1) (mc (.int 1))) ag))))))
noncomputable def bF:List AV->S->R AV:=eB 2 dE
noncomputable def g9:Ms:=
 (aC (cw 2 (mc .az))
 (aC (mX 6 5 (λ c=>decide (c < 9) && ai 0 c) (bI (aD 2 bF (aa (mv 0) (aa (mv 1) ag)))) (cw 2 (mv 5)))
 (aC (fS (cB (ae jR (mv 2) (mc .az))) (bh (mc (.str ""))) bR)
 (aC (cw 3 (aR (dc (aa (cA (bH (jy 2)) (mv 2)) (aa (cA (bH (jy 3)) (mv 2)) (aa (cA (bH (jy 4)) (mv 2)) ag))))))
 (aC (cw 3 (ae cZ (mv 3) (aR (dc (aa (cA (bH (jy 5)) (mv 2)) (aa (cA (bH (jy 6)) (mv 2)) ag))))))
 (aC (cw 4 (aR (cj [("_law_k",none),("_law_told",some 3)] (qr (aa (mc (.int 5)) ag)) (gN 0) (cT (ae bj (mv 1) (mv 0))) (BD (ae bj (aR (dc (aa (mc (.str "taken")) (aa (mc (.str "name")) (aa (mc (.str "much")) (aa (mc (.str "rate")) (aa (mc (.str "left")) ag))))))) (mv 0))))))
 (aC (fS (Cf (cB (ae ou (ua hX (aa (mv 4) ag)) (mc (.int 1)))) (Cf (cT (cA (bH (qG [1,8,7])) (mv 2))) (oG (cT (cA (bH yL) (mv 2)))))) (bh (mc (.str "many"))) bR)
 (bh (ae bj (mv 4) (mc (.int 0)))))))))))
noncomputable def cG:List AV->S->R AV:=eB 6 g9
noncomputable def jt:Ms:=
 (aC (cw 0 (jB [((mc (.str "people")),(aR (dc ag))),((mc (.str "works")),vj),((mc (.str "hands")),(aR (dc ag))),((mc (.str "known")),vj),((mc (.str "rates")),(aR (dc ag))),((mc (.str "keeps")),vj),((mc (.str "half")),(mc (.int 182)))]))
 (aC (yb (jj (aa (aR (dc ag)) (aa (aR (dc ag)) ag))) (gT 2 (aT (p_ (mv 0) (mc (.str "money"))) (aT (p_ (mv 0) (mc (.str "debts"))) ie))))
 (bh (mv 0))))
noncomputable def cM:List AV->S->R AV:=eB 1 jt
noncomputable def lT:Ms:=
 (aC (oo 2 3 (aa (ae bc (mv 0) (mc (.str "people"))) (aa (ae bc (mv 0) (mc (.str "works"))) ag)))
 (aC (fS (cB (ae dM (ae bj (mv 1) (mc (.int 0))) (mc (.str "half")))) (jO (mv 0) (mc (.str "half")) (ae bj (mv 1) (mc (.int 1)))) (fS (cB (ae dM (ae bj (mv 1) (mc (.int 0))) (mc (.str "keep")))) (aC (fS (cB (ae q_ (ae bj (mv 1) (mc (.int 1))) (mv 2))) (bh (mc (.str "name"))) bR)
    (jO (ae bc (mv 0) (mc (.str "keeps"))) (ae bj (mv 1) (mc (.int 1))) (ae bj (mv 1) (mc (.int 2))))) (fS (Cf (cB (ae qw (ae bj (mv 1) (mc (.int 1))) (mv 2))) (cB (ae jT (ae bj (mv 1) (mc (.int 1))) (mv 3)))) (bh (mc (.str "taken"))) (fS (cB (ae dM (ae bj (mv 1) (mc (.int 0))) (mc (.str "person")))) (bI (nr "list" bP (mv 2) (aa (ae bj (mv 1) (mc (.int 1))) ag))) (jO (mv 3) (ae bj (mv 1) (mc (.int 1))) (jj ag))))))
 (bh (mc (.str "")))))
noncomputable def fH:List AV->S->R AV:=eB 4 lT
noncomputable def gu:Ms:=
 (aC (oo 2 3 (aa (aX 9 "work_names" 0 bJ (mv 0) ag) (aa (aX 9 "person_names" 0 bB (mv 0) ag) ag)))
 (aC (cw 1 (aR (dc (aa (mv 3) (aa (mv 2) (aa (aR (cj [("_law_work",none),("_law_book",some 0)] (fR (mv 2)) (gN 0) js (aX 9 "rows_of" 1 bz (mv 1) (aa (mv 0) ag)))) (aa (aR (cj [("_law_person",none),("_law_book",some 0)] (fR (mv 3)) (gN 0) js (aX 9 "hands_of" 1 a_ (mv 1) (aa (mv 0) ag)))) ag)))))))
 (aC (cw 1 (ae cZ (mv 1) (aR (dc (aa (aR (cj [("_law_work",none),("_law_book",some 0)] (fR (mv 2)) (gN 0) js (aX 9 "known_of" 1 a9 (mv 1) (aa (mv 0) ag)))) (aa (aR (cj [("_law_person",none),("_law_book",some 0)] (fR (mv 3)) (gN 0) js (aX 9 "keep_of" 1 bA (mv 1) (aa (mv 0) ag)))) ag))))))
 (bh (ae cZ (mv 1) (aR (dc (aa (aX 9 "rate_list" 0 bT (mv 0) ag) (aa (aX 9 "half_days" 0 bU (mv 0) ag) (aa (aX 9 "money_list" 0 bK (mv 0) ag) (aa (aX 9 "debt_list" 0 bV (mv 0) ag) ag)))))))))))
noncomputable def aN:List AV->S->R AV:=eB 4 gu
noncomputable def g_:Ms:=
 (aC (oo 2 3 (aa (aR (lO (ae bc (mv 0) (mc (.str "works"))))) (aa (aR (lM (ae bc (mv 0) (mc (.str "people"))))) ag)))
 (aC (cw 1 (aR (dc (aa (mv 3) (aa (mv 2) (aa (aR (cj [("_law_work",none),("_law_world_here",some 0)] (fR (mv 2)) (gN 0) js (ae bc (ae bc (mv 1) (mc (.str "works"))) (mv 0)))) ag))))))
 (aC (bI (nr "list" bP (mv 1) (aa (aR (cj [("_law_person",none),("_law_world_here",some 0)] (fR (mv 3)) (gN 0) js (aR (lN (cj [("_law_one",none),("_law_person",some 0)] (fR (ae bc (mv 1) (mc (.str "hands")))) (gN 0) (cB (ae dM (ae bj (mv 0) (mc (.int 0))) (mv 1))) (FV (mv 0) (oS (mc (.int 1))) oN)))))) ag)))
 (aC (bI (nr "list" bP (mv 1) (aa (aR (cj [("_law_work",none),("_law_world_here",some 0)] (fR (mv 2)) (gN 0) js (rn (ae bc (mv 1) (mc (.str "known"))) (mv 0)))) ag)))
 (aC (bI (nr "list" bP (mv 1) (aa (aR (cj [("_law_person",none),("_law_world_here",some 0)] (fR (mv 3)) (gN 0) js (pS (ae bc (mv 1) (mc (.str "keeps"))) (mv 0) (jj (aa (mc (.int 0)) (aa (mc (.int 1)) ag)))))) ag)))
 (aC (cw 1 (ae cZ (mv 1) (aR (dc (aa (aR (lM (ae bc (mv 0) (mc (.str "rates"))))) (aa (ae bc (mv 0) (mc (.str "half"))) ag))))))
 (bh (ae cZ (mv 1) (aR (dc (aa (aR (jZ (aD 1 bM (aa (ae bc (mv 0) (mc (.str "money"))) ag)))) (aa (aR (jZ (aD 1 bM (aa (ae bc (mv 0) (mc (.str "debts"))) ag)))) ag))))))))))))
noncomputable def bx:List AV->S->R AV:=eB 4 g_
noncomputable def iL:Ms:=
 (aC (sy (qr (aa (mv 5) ag)) (gN 6) (aC (cw 7 (aD 3 eF (aa (mv 0) (aa (mv 3) (aa (ae bj (mv 4) (aD 2 aO (aa (mv 0) (aa (ua hX (aa (mv 4) ag)) ag)))) ag)))))
 (aC (cw 8 (aD 2 fH (aa (mv 2) (aa (mv 7) ag))))
 (aC (fS (oG (cT (aD 2 (ar 9) (aa (aD 2 cG (aa (mv 1) (aa (mv 7) ag))) (aa (mv 8) ag))))) (bh (mc (.bl false))) bR)
 (fS (oG (cT (BD (aD 2 (ar 9) (aa (aD 1 aN (aa (mv 1) ag)) (aa (aD 1 bx (aa (mv 2) ag)) ag)))))) (bh (mc (.bl false))) bR)))))
 (bh (mc (.bl true))))
noncomputable def cx:List AV->S->R AV:=eB 9 iL
noncomputable def gq:Ms:=
 (aC (cw 3 (mc .az))
 (aC (mX 5 4 (λ c=>decide (c < 9) && ai 0 c) (fS (cB (ae dM (mv 1) (mc (.int 0)))) (bI (aX 9 "rows_of" 1 bz (mv 0) (aa (mv 2) ag))) (fS (cB (ae dM (mv 1) (mc (.int 1)))) (bI (aX 9 "hands_of" 1 a_ (mv 0) (aa (mv 2) ag))) (fS (cB (ae dM (mv 1) (mc (.int 2)))) (bI (aX 9 "known_of" 1 a9 (mv 0) (aa (mv 2) ag))) (bI (aX 9 "keep_of" 1 bA (mv 0) (aa (mv 2) ag)))))) (cw 3 (mv 4)))
 (aC (fS (cB (ae jR (mv 3) (mc .az))) (bh (mc (.bl false))) bR)
 (bh (sS (cA (bH (jy 3)) (mv 3)) (cA qZ (cA (bH (qG [1,8,7,6,5])) (mv 3))))))))
noncomputable def b9:List AV->S->R AV:=eB 5 gq
noncomputable def eW:Ms:=
 (aC (sy (fR (mv 2)) (gN 3) (sy (qr (aa (mc (.int 4)) ag)) (gN 4) (aC (cw 5 (JF (cB (ae qw (mv 4) (jj (aa (mc (.int 0)) (aa (mc (.int 2)) ag))))) (ae bc (mv 1) (mc (.str "works"))) (ae bc (mv 1) (mc (.str "people")))))
 (fS (cB (ae dM (aD 3 b9 (aa (mv 0) (aa (mv 4) (aa (mv 3) ag)))) (ae pG (mv 3) (mv 5)))) (bh (mc (.bl false))) bR))))
 (bh (mc (.bl true))))
noncomputable def aY:List AV->S->R AV:=eB 6 eW
noncomputable def iM:Ms:=
 (sy (fR (mv 0)) (gN 1) (aC (fS (cT (cA (dH "list") (mv 1))) (aC (bI (rm "list" iV (mv 1)))
 (bI (nr "list" bP (mv 1) (aa (mc (.str "more")) ag)))) bR)
 (fS (Cg (cT (cA (dH "list") (mv 1))) (Cg (cB (ae ra (ae bj (mv 1) (mc (.int 0))) (mc (.str "more")))) (cT (cA (dH "list") (ae bj (mv 1) (mc (.int 0))))))) (bI (nr "list" bP (ae bj (mv 1) (mc (.int 0))) (aa (mc (.str "more")) ag))) bR)))
noncomputable def cy:List AV->S->R AV:=eB 2 iM
noncomputable def Co:Ms:=
 (aC (cw 1 (aD 1 dC (aa (mv 0) ag)))
 (aC (cw 2 (aR (jZ (aD 1 b8 (aa (mv 1) ag)))))
 (aC (oo 4 5 (aa (lG 9 bE) (aa (aD 0 cM ag) ag)))
 (aC (fS (Cf (oG (cT (BD (aD 2 (ar 9) (aa (aD 1 aN (aa (mv 4) ag)) (aa (aD 1 bx (aa (mv 5) ag)) ag)))))) (oG (cT (aD 3 aY (aa (mv 4) (aa (mv 5) (aa (FV (mv 2) oN (oS (mc (.int 2)))) ag))))))) (bh (mc (.bl false))) bR)
 (aC (sy (qr (aa (mc (.int 2)) ag)) (gN 3) (aC (fS (oG (cT (Ge (aD 6 cx (aa (mv 1) (aa (mv 4) (aa (mv 5) (aa (mv 2) (aa (aR (dc (aa (mc (.str "person")) (aa (mc (.str "work")) (aa (mc (.str "half")) ag))))) (aa (ae cZ (mc (.int 10)) (aD 2 aO (aa (mv 1) (aa (mc (.int 21)) ag)))) ag)))))))))) (bh (mc (.bl false))) bR)
 (aC (fS (oG (cT (BD (aD 3 aY (aa (mv 4) (aa (mv 5) (aa (ae cZ (mv 2) (aR (dc (aa (mc (.str "")) (aa (mc (.str " ")) (aa (mc (.str "A")) (aa (mc (.str "abcdefghi")) (aa (mc (.str "1/2")) (aa (mc (.str "a b")) ag))))))))) ag))))))) (bh (mc (.bl false))) bR)
 (aC (bI (BD (aD 1 cy (aa (aD 1 aN (aa (mv 4) ag)) ag))))
 (fS (oG (cT (BD (aD 2 (ar 9) (aa (aD 1 aN (aa (mv 4) ag)) (aa (aD 1 bx (aa (mv 5) ag)) ag)))))) (bh (mc (.bl false))) bR)))))
 (bh (mc (.bl true))))))))
noncomputable def qc:List AV->S->R AV:=eB 6 Co
def top (i:Nat):Stmt:=PySem.Challenge.pw_royaltree_k12_people_and_works.main.body.getD i (.Pass ⟨0,0,0,0⟩)
set_option hygiene false in
local macro_rules | `(tactic| walk_at "q") => `(tactic| first
 | ((with_reducible show PE _ _ (tE _ _ (mv _)));exact O4 (pv _))
 | ((with_reducible show PA _ (_ :: _) (tK _)); refine wO xs (by decide) ?_ <;> walk_at "q")
 | ((with_reducible show PA _ [] (tK _));exact wN)
 | ((with_reducible show PA _ (_ :: _) _); refine ux ?_ ?_ <;> walk_at "q")
 | ((with_reducible exact wM))
 | ((with_reducible exact Ip))
 | ((with_reducible exact Ie))
 | ((with_reducible exact Ii))
 | ((with_reducible exact Lp))
 | ((with_reducible show(_:Nat)<=_);first|decide|omega)
 | ((with_reducible show PE _ _ (tE _ _ (mc _)));exact Ik (by with_reducible assumption:CN T mg _ _))
 | ((with_reducible show PE _ _ (tE _ _ (ae cZ _ _))); refine pR (OW rfl) ?_ ?_ <;> walk_at "q")
 | ((with_reducible show PE _ _ (tE _ _ (ae jQ _ _))); refine pR (OT) ?_ ?_ <;> walk_at "q")
 | ((with_reducible show PE _ _ (tE _ _ (ae mZ _ _))); refine pR (K7) ?_ ?_ <;> walk_at "q")
 | ((with_reducible show PE _ _ (tE _ _ (ae hW _ _))); refine pR (oMod) ?_ ?_ <;> walk_at "q")
 | ((with_reducible show PE _ _ (tE _ _ (ae wQ _ _))); refine pR (OP) ?_ ?_ <;> walk_at "q")
 | ((with_reducible show PE _ _ (tE _ _ (aD _ _ ag))); refine Iy (by with_reducible assumption : gJ P w T mg base _ _ _ _) (hr.mono ?_) (by first | with_reducible assumption | exact JG) <;> walk_at "q")
 | ((with_reducible show PE _ _ (tE _ _ (aD _ _ _))); refine Lr (by with_reducible assumption : gJ P w T mg base _ _ _ _) (hr.mono ?_) ?_ (by first | with_reducible assumption | exact JG) <;> walk_at "q")
 | ((with_reducible show PE _ _ (tE _ _ (cA (bH yL) _))); refine Im xs (by with_reducible assumption : mg _ = none) (by with_reducible assumption : mg _ = none) ?_ <;> walk_at "q")
 | ((with_reducible show PE _ _ (tE _ _ (cA (bH (jy _)) _))); refine Io xs (by decide) (by with_reducible assumption : mg _ = none) ?_ <;> walk_at "q")
 | ((with_reducible show PE _ _ (tE _ _ (cA (bH (qG _)) _))); refine Ew xs (by decide) (by decide) (by with_reducible assumption : mg _ = none) ?_ ?_ <;> walk_at "q")
 | ((with_reducible show PA _ (_ :: _) (tK _)); refine wO xs (by decide) ?_ <;> walk_at "q")
 | ((with_reducible show PA _ [] (tK _));exact wN)
 | ((with_reducible show PE _ _ (tE _ _ (cA (cY _ _) _))); refine Iu bk.cl (bk.na _ (by decide +kernel)) ?_ <;> walk_at "q")
 | ((with_reducible show PE _ _ (tE _ _ (aX _ _ _ _ _ ag))); refine A4 bk.cl (by with_reducible assumption : jc P w T mg base _ _ _ _ _) (hr.mono ?_) ?_ (by first | with_reducible assumption | exact JG) <;> walk_at "q")
 | ((with_reducible show PE _ _ (tE _ _ (aX _ _ _ _ _ _))); refine Es bk.cl (by with_reducible assumption : jc P w T mg base _ _ _ _ _) (hr.mono ?_) ?_ ?_ (by first | with_reducible assumption | exact JG) <;> walk_at "q")
 | ((with_reducible show PE _ _ (tE _ _ (lG _ _))); refine A6 (by with_reducible assumption : Nd P w T mg base _ _ _ _) (hr.mono ?_) (by first | with_reducible assumption | exact JG) <;> walk_at "q")
 | ((with_reducible show PS _ _ (tS _ _ (gW _ _ _ _))); refine HU bk.cl (bk.na _ (by decide +kernel)) ?_ ?_ <;> walk_at "q")
 | ((with_reducible show PE _ _ (tE _ _ (rn _ _))); refine Ez uN ?_ ?_ <;> walk_at "q")
 | ((with_reducible show PE _ _ (tL _ _ (lM _))); refine AW (by with_reducible assumption : mg _ = none) ?_ <;> walk_at "q")
 | ((with_reducible show PE _ _ (tL _ _ (lN _))); refine AY (by with_reducible assumption : mg _ = none) ?_ <;> walk_at "q")
 | ((with_reducible show PI _ _ _ (tW _ _ (xV _))); refine Ek rfl (by with_reducible assumption : mg _ = none) ?_ <;> walk_at "q")
 | ((with_reducible show PE _ _ (tL _ _ (qa _ _ _))); refine AZ (by with_reducible assumption : mg _ = none) rfl hC ?_ <;> walk_at "q")
 | ((with_reducible show PE _ _ (tE _ _ (ae pG _ _))); refine iB (K6 rfl uN) ?_ ?_ <;> walk_at "q")
 | ((with_reducible show PT _ _ (iR _ _ (cB (ae pG _ _)))); refine fO (K6 rfl uN) ?_ ?_ <;> walk_at "q")
 | ((with_reducible show PE _ _ (tE _ _ (ae ra _ _))); refine iB (KZ rfl hu) ?_ ?_ <;> walk_at "q")
 | ((with_reducible show PT _ _ (iR _ _ (cB (ae ra _ _)))); refine fO (KZ rfl hu) ?_ ?_ <;> walk_at "q")
 | ((with_reducible show PG _ _ (tT _ _ (p_ _ _))); refine Ep uN ?_ ?_ <;> walk_at "q")
 | ((with_reducible exact DY))
 | ((with_reducible show PS _ _ (tS _ _ (FN _ _))); refine La xs (by decide) (by first | with_reducible assumption | exact JG) ?_ <;> walk_at "q")
 | ((with_reducible show PS _ _ (tS _ _ (mX _ _ _ _ _))); refine K' xs (by decide) nd (fun _ _ _ _ => ?_) (fun _ => ?_) <;> walk_at "q")
 | ((with_reducible show PE _ _ (tE _ _ (ae bj _ _))); refine Ll (RQ rfl) ?_ ?_ <;> walk_at "q")
 | ((with_reducible show PE _ _ (tE _ _ (ae bc _ _))); refine EB uN ?_ ?_ <;> walk_at "q")
 | ((with_reducible show PE _ _ (tE _ _ (jj _))); refine Ic ?_ <;> walk_at "q")
 | ((with_reducible show PE _ _ (tE _ _ (aR _))); refine Ij ?_ <;> walk_at "q")
 | ((with_reducible show PE _ _ (tL _ _ (dc _))); refine HX ?_ <;> walk_at "q")
 | ((with_reducible show PE _ _ (tE _ _ (ae dM _ _))); refine iB (oEq rfl hu) ?_ ?_ <;> walk_at "q")
 | ((with_reducible show PE _ _ (tE _ _ (ae ou _ _))); refine iB (OS rfl hu) ?_ ?_ <;> walk_at "q")
 | ((with_reducible show PE _ _ (tE _ _ (ae Ax _ _))); refine iB (oLt) ?_ ?_ <;> walk_at "q")
 | ((with_reducible show PE _ _ (tE _ _ (ae vJ _ _))); refine iB (QJ) ?_ ?_ <;> walk_at "q")
 | ((with_reducible show PE _ _ (tE _ _ (ae Az _ _))); refine iB (QK) ?_ ?_ <;> walk_at "q")
 | ((with_reducible show PE _ _ (tE _ _ (ae jR _ _))); refine iB (K0) ?_ ?_ <;> walk_at "q")
 | ((with_reducible show PE _ _ (tE _ _ (ae qw _ _))); refine iB (OU rfl) ?_ ?_ <;> walk_at "q")
 | ((with_reducible show PE _ _ (tE _ _ (ae q_ _ _))); refine iB (KY rfl) ?_ ?_ <;> walk_at "q")
 | ((with_reducible show PT _ _ (iR _ _ (cB (ae dM _ _)))); refine fO (oEq rfl hu) ?_ ?_ <;> walk_at "q")
 | ((with_reducible show PT _ _ (iR _ _ (cB (ae ou _ _)))); refine fO (OS rfl hu) ?_ ?_ <;> walk_at "q")
 | ((with_reducible show PT _ _ (iR _ _ (cB (ae Ax _ _)))); refine fO (oLt) ?_ ?_ <;> walk_at "q")
 | ((with_reducible show PT _ _ (iR _ _ (cB (ae vJ _ _)))); refine fO (QJ) ?_ ?_ <;> walk_at "q")
 | ((with_reducible show PT _ _ (iR _ _ (cB (ae Az _ _)))); refine fO (QK) ?_ ?_ <;> walk_at "q")
 | ((with_reducible show PT _ _ (iR _ _ (cB (ae jR _ _)))); refine fO (K0) ?_ ?_ <;> walk_at "q")
 | ((with_reducible show PT _ _ (iR _ _ (cB (ae qw _ _)))); refine fO (OU rfl) ?_ ?_ <;> walk_at "q")
 | ((with_reducible show PT _ _ (iR _ _ (cB (ae q_ _ _)))); refine fO (KY rfl) ?_ ?_ <;> walk_at "q")
 | ((with_reducible show PE _ _ (tE _ _ (ae jT _ _))); refine Iv uN ?_ ?_ <;> walk_at "q")
 | ((with_reducible show PT _ _ (iR _ _ (cB (ae jT _ _)))); refine G_ uN ?_ ?_ <;> walk_at "q")
 | ((with_reducible show PT _ _ (iR _ _ (cB (ae pI _ _)))); refine Dv uN ?_ ?_ <;> walk_at "q")
 | ((with_reducible refine Kw ?_) <;> walk_at "q")
 | ((with_reducible refine Du ?_) <;> walk_at "q")
 | ((with_reducible refine PW.pt (pw_and' ?_ ?_)) <;> walk_at "q")
 | ((with_reducible refine PW.pt (pw_or' ?_ ?_)) <;> walk_at "q")
 | ((with_reducible refine pw_and' ?_ ?_) <;> walk_at "q")
 | ((with_reducible refine pw_or' ?_ ?_) <;> walk_at "q")
 | ((with_reducible refine pw_and1' ?_) <;> walk_at "q")
 | ((with_reducible refine pw_or1' ?_) <;> walk_at "q")
 | ((with_reducible show PT _ _ (iR _ _ (cT _))); refine OL rfl ?_ <;> walk_at "q")
 | ((with_reducible refine Ih ?_) <;> walk_at "q")
 | ((with_reducible show PE _ _ (tE _ _ (cA wR _))); refine Li OQ ?_ <;> walk_at "q")
 | ((with_reducible refine Iw ?_ ?_) <;> walk_at "q")
 | ((with_reducible refine Lk ?_ ?_) <;> walk_at "q")
 | ((with_reducible refine Ig ?_) <;> walk_at "q")
 | ((with_reducible show PE _ _ (tE _ _ (JF _ _ _))); refine Lm ?_ ?_ ?_ <;> walk_at "q")
 | ((with_reducible exact Lo))
 | ((with_reducible show PE _ _ (tE _ _ (jB _))); (with_reducible refine EA ?hh ?ha ?hb ?hc ?hd); (case ha => rfl); (case hb => rfl); (case hc => exact List.cons_ne_nil _ _); (case hd => decide); walk_at "q")
 | ((with_reducible refine AU ?_ ?_ ?_) <;> walk_at "q")
 | ((with_reducible exact Ef))
 | ((with_reducible show PE _ _ (tE _ _ (FV _ _ _))); refine Lj rfl ?_ ?_ ?_ <;> walk_at "q")
 | ((with_reducible exact z9))
 | ((with_reducible refine z0 ?_) <;> walk_at "q")
 | ((with_reducible refine Ln ?_) <;> walk_at "q")
 | ((with_reducible refine Iq ?_) <;> walk_at "q")
 | ((with_reducible refine Eg ?_) <;> walk_at "q")
 | ((with_reducible refine HW ?_) <;> walk_at "q")
 | ((with_reducible show PE _ _ (tE _ _ (pS _ _ _))); refine Ey uN ?_ ?_ ?_ <;> walk_at "q")
 | ((with_reducible show PE _ _ (tL _ _ (BF "str" l9 _ _))); refine Ia rfl PySem.F.plainAttrs_str PySem.F.slot_str_split PySem.F.type_str_split Jr ?_ ?_ <;> walk_at "q")
 | ((with_reducible show PE _ _ (tE _ _ (nr "list" bP _ _))); refine A5 rfl PySem.F.plainAttrs_list PySem.F.slot_list_append PySem.F.type_list_append Fp ?_ ?_ <;> walk_at "q")
 | ((with_reducible show PE _ _ (tE _ _ (rm "list" iV _))); refine wX rfl PySem.F.plainAttrs_list PySem.F.slot_list_reverse PySem.F.type_list_reverse B4 ?_ <;> walk_at "q")
 | ((with_reducible show PE _ _ (tE _ _ (rm "list" qY _))); refine wX rfl PySem.F.plainAttrs_list PySem.F.slot_list_pop PySem.F.type_list_pop Mv ?_ <;> walk_at "q")
 | ((with_reducible show PE _ _ (tE _ _ (nr "list" qY _ _))); refine A5 rfl PySem.F.plainAttrs_list PySem.F.slot_list_pop PySem.F.type_list_pop Mv ?_ ?_ <;> walk_at "q")
 | ((with_reducible show PE _ _ (tE _ _ (ua hX _))); refine Iz (Qg rfl) (by with_reducible assumption : mg _ = none) PySem.boot_len ?_ <;> walk_at "q")
 | ((with_reducible show PE _ _ (tE _ _ (ua rb _))); refine Iz (cAbs) (by with_reducible assumption : mg _ = none) Ro.boot_abs ?_ <;> walk_at "q")
 | ((with_reducible show PE _ _ (tE _ _ (ua jS _))); refine Iz (Fw) (by with_reducible assumption : mg _ = none) Ro.boot_divmod ?_ <;> walk_at "q")
 | ((with_reducible show PE _ _ (tE _ _ (CJ zQ _))); refine Lf (Qh rfl) (by with_reducible assumption : mg _ = none) Ro.boot_all ?_ <;> walk_at "q")
 | ((with_reducible show PE _ _ (tL _ _ (CJ wH _))); refine O3 (M8 rfl) (by with_reducible assumption : mg _ = none) Ro.boot_list ?_ <;> walk_at "q")
 | ((with_reducible show PE _ _ (tL _ _ (lO _))); refine A1 (by with_reducible assumption : mg _ = none) ?_ <;> walk_at "q")
 | ((with_reducible show PE _ _ (tL _ _ (nF _))); refine A0 (by with_reducible assumption : mg _ = none) ?_ <;> walk_at "q")
 | ((with_reducible show PE _ _ (tE _ _ (cA (dH _) _))); refine Il rfl (by decide) (by with_reducible assumption : mg _ = none) (by with_reducible assumption : mg _ = none) (by first | exact Ro.boot_int | exact Ro.boot_bool | exact Ro.boot_list | exact Ro.boot_tuple | exact Ro.boot_str) ?_ <;> walk_at "q")
 | ((with_reducible show PE _ _ (tE _ _ (cA pH _))); refine Ir rfl ?_ <;> walk_at "q")
 | ((with_reducible show PE _ _ (tE _ _ (nV _))); refine Et ?_ <;> walk_at "q")
 | ((with_reducible show PJ _ (_ :: _) (tJ _ _ (hZ _ _))); refine Ei ?_ ?_ <;> walk_at "q")
 | ((with_reducible exact HY))
 | ((with_reducible show PE _ _ (tL _ _ (cj _ _ _ _ _))); refine Eh _ (eG.of rfl (by decide +kernel) (by decide +kernel) (by decide +kernel) (by repeat (first | exact trivial | refine ⟨⟨rfl, rfl, by first | exact .inl rfl | exact .inr rfl⟩, ?_⟩))) rfl ?_ (fun _ _ _ _ _ => ?_) (fun _ _ _ _ _ => ?_) (fun _ _ _ _ _ => ?_) <;> walk_at "q")
 | ((with_reducible exact Aa))
 | ((with_reducible refine z_ ?_) <;> walk_at "q")
 | ((with_reducible show PI _ _ _ (tW _ _ (qr (aa _ ag)))); refine Le (by with_reducible assumption : mg _ = none) ?_ <;> walk_at "q")
 | ((with_reducible show PI _ _ _ (tW _ _ (zD _ _))); refine HZ rfl (by with_reducible assumption : mg _ = none) ?_ ?_ <;> walk_at "q")
 | ((with_reducible show PI _ _ _ (tW _ _ (uo _))); refine O2 rfl ?_ <;> walk_at "q")
 | ((with_reducible show PI _ _ _ (tW _ _ (fR _))); refine O1 rfl ?_ <;> walk_at "q")
 | ((with_reducible show PG _ _ (tT _ _ (gN _)));exact Er (by first|exact nd|(show List.Nodup (_ :: _);decide +kernel)))
 | ((with_reducible show PG _ _ (tT _ _ (gT _ _))); refine H_ rfl rfl ?_ <;> walk_at "q")
 | ((with_reducible show PG _ _ (tT _ _ (j_ _ _))); refine Em ?_ ?_ <;> walk_at "q")
 | ((with_reducible show xH _ (_ :: _) _); refine A3 ?_ ?_ <;> walk_at "q")
 | ((with_reducible exact El))
 | ((with_reducible exact DZ))
 | ((with_reducible exact HH))
 | ((with_reducible exact DX))
 | ((with_reducible refine D6 ?_ ?_) <;> walk_at "q")
 | ((with_reducible refine HG ?_) <;> walk_at "q")
 | ((with_reducible show PS _ _ (tS _ _ (cw _ (aR (cj _ _ _ _ _))))); refine vO _ (eG.of rfl (by decide +kernel) (by decide +kernel) (by decide +kernel) (by repeat (first | exact trivial | refine ⟨⟨rfl, rfl, by first | exact .inl rfl | exact .inr rfl⟩, ?_⟩))) rfl nd ?_ (fun _ _ _ _ _ => ?_) (fun _ _ _ _ _ => ?_) (fun _ _ _ _ _ => ?_) <;> walk_at "q")
 | ((with_reducible show PS _ _ (tS _ _ (cw _ (jB _)))); (with_reducible refine Ec ?hN ?_ ?hi ?hx ?hf); (case hN => exact nd); (case hi => rfl); (case hx => exact Or.inl rfl); (case hf => exact Or.inl rfl); walk_at "q")
 | ((with_reducible show PS _ _ (tS _ _ (cw _ _))); refine AR nd ?_ <;> walk_at "q")
 | ((with_reducible show PS _ _ (tS _ _ (bh _))); refine HQ ?_ <;> walk_at "q")
 | ((with_reducible show PS _ _ (tS _ _ (fS _ _ _))); refine Lb ?_ ?_ ?_ <;> walk_at "q")
 | ((with_reducible show PS _ _ (tS _ _ (bI _))); refine Ed ?_ <;> walk_at "q")
 | ((with_reducible show PS _ _ (tS _ _ (sy _ _ _))); refine HS (by first | exact As | exact PassesOwn.never) rfl ?_ ?_ ?_ <;> walk_at "q")
 | ((with_reducible show PS _ _ (tS _ _ (oo _ _ _))); refine HR rfl nd ?_ <;> walk_at "q")
 | ((with_reducible show PS _ _ (tS _ _ (yb _ _))); refine HV ?_ ?_ ?_ <;> walk_at "q")
 | ((with_reducible show PS _ _ (tS _ _ (jO _ _ _))); refine Ee uN ?_ ?_ ?_ <;> walk_at "q")
 | ((with_reducible show PS _ _ (tS _ _ (Dk _ _ _))); refine HN _ (by first | exact As | exact PassesOwn.never) ?_ ?_ <;> walk_at "q")
 | ((with_reducible show kA _ _ (tS _ _ (aC _ _))); refine AQ ?_ ?_ <;> walk_at "q")
 | ((with_reducible show kA _ _ (tS _ _ bR));exact Ea)
 | (refine D_ ?_ <;> walk_at "q"))
local macro_rules | `(tactic| walk_at "b") => `(tactic| (intro _ _ _ _ _ _ us hl; first
 | (match us,hl with|[],_=>rfl)|(match us,hl with|[_],_=>rfl)|(match us,hl with|[_,_],_=>rfl)|(match us,hl with|[_,_,_],_=>rfl)|(match us,hl with|[_,_,_,_],_=>rfl)
 | (match us,hl with|[_,_,_,_,_],_=>rfl)|(match us,hl with|[_,_,_,_,_,_],_=>rfl)|(match us,hl with|[_,_,_,_,_,_,_],_=>rfl)))
set_option hygiene false in
local macro_rules | `(tactic| walk_at "g") => `(tactic| (intro hr nd ls; have uN := FY hr; have hu := LL hr; walk_at "q"))
section
variable {P:Program}{w:World}{T:Tx}{mg:Str->Option Value}{base:Heap}(xs:Xs T mg)(bk:Bk T 9 ["keeps","rows","hands","makers","rates","half","money","debts"])
variable (cJ:mg "ValueError"=none)
variable (pb:mg "abs"=none)
variable (o_:mg "all"=none)
variable (lg:mg "bool"=none)
variable (gO:mg "divmod"=none)
variable (dj:mg "enumerate"=none)
variable (o9:mg "int"=none)
variable (aS:mg "isinstance"=none)
variable (fQ:mg "len"=none)
variable (gM:mg "list"=none)
variable (cI:mg "range"=none)
variable (bt:mg "sorted"=none)
variable (o8:mg "str"=none)
variable (jd:mg "tuple"=none)
variable (o7:mg "zip"=none)
variable (bu:CN T mg "FIRST_HALF_DAYS" cq)
variable (fB:CN T mg "NOTHING" kE)
variable (i6:gJ P w T mg base "by_days" 1 1 dA)
variable (gm:Nd P w T mg base 9 "Book" 1 bE)
variable (bf:jc P w T mg base 9 "need_person" 1 1 aH)
variable (cD:jc P w T mg base 9 "need_work" 1 1 aU)
variable (gf:jc P w T mg base 9 "has_name" 1 1 b_)
variable (cE:jc P w T mg base 9 "need_free" 1 2 aV)
variable (eS:jc P w T mg base 9 "add_person" 1 3 aZ)
variable (gh:jc P w T mg base 9 "add_work" 1 3 bD)
variable (dN:jc P w T mg base 9 "person_names" 0 1 bB)
variable (eQ:jc P w T mg base 9 "work_names" 0 1 bJ)
variable (dq:jc P w T mg base 9 "rows_of" 1 2 bz)
variable (cS:jc P w T mg base 9 "hands_of" 1 2 a_)
variable (cR:jc P w T mg base 9 "known_of" 1 2 a9)
variable (fE:jc P w T mg base 9 "rate_list" 0 1 bT)
variable (gc:jc P w T mg base 9 "put_keep" 2 2 bC)
variable (dt:jc P w T mg base 9 "keep_of" 1 2 bA)
variable (gd:jc P w T mg base 9 "put_half" 1 1 bN)
variable (fF:jc P w T mg base 9 "half_days" 0 1 bU)
variable (eR:jc P w T mg base 9 "money_list" 0 2 bK)
variable (fG:jc P w T mg base 9 "debt_list" 0 2 bV)
variable (jq:gJ P w T mg base "_law_begin" 1 1 dC)
variable (bq:gJ P w T mg base "_law_take" 2 1 aO)
variable (fV:gJ P w T mg base "_law_same" 2 10 (ar 9))
variable (iE:gJ P w T mg base "_law_lowest" 2 1 cz)
variable (jo:gJ P w T mg base "_law_names" 2 2 dB)
variable (j8:gJ P w T mg base "_law_part" 1 2 du)
variable (f_:gJ P w T mg base "_law_in_order" 1 1 bM)
variable (f9:gJ P w T mg base "_law_names_of" 1 3 b8)
variable (nC:gJ P w T mg base "_law_of" 2 2 gL)
variable (j9:gJ P w T mg base "_law_deed" 3 3 eF)
variable (nE:gJ P w T mg base "_law_do" 2 4 bF)
variable (gZ:gJ P w T mg base "_law_refusal" 2 5 cG)
variable (jn:gJ P w T mg base "_law_world" 0 1 cM)
variable (lK:gJ P w T mg base "_law_due" 2 1 fH)
variable (cQ:gJ P w T mg base "_law_all_told" 1 3 aN)
variable (dn:gJ P w T mg base "_law_all_due" 1 2 bx)
variable (iC:gJ P w T mg base "_law_walked" 6 11 cx)
variable (gb:gJ P w T mg base "_law_asked_of" 3 3 b9)
variable (eO:gJ P w T mg base "_law_asks_right" 3 4 aY)
variable (iD:gJ P w T mg base "_law_spoilt" 1 1 cy)
include xs bk bt in
theorem vK (_:Nf T mg "by_days" (top 14) 20):gJ P w T mg base "by_days" 1 1 dA:=by
 unfold dA nJ
 refine Jh (k:=0) ["rows"] (by with_reducible assumption) ⟨rfl,rfl,rfl,by decide +kernel,rfl,by decide +kernel,by decide +kernel⟩ (by walk_at "b") rfl λ _ _ _ _ _ _ _ hC=>?_
 walk_at "g"
include xs bk bu in
theorem nk (_:Ng T mg 9 "Book" "Book.__init__" (inClass (top 15) 0)):Nd P w T mg base 9 "Book" 1 bE:=by
 unfold bE gz
 refine Ji (k:=0) ["self"] (by with_reducible assumption) ⟨rfl,rfl,rfl,by decide +kernel,rfl,by decide +kernel,by decide +kernel⟩ (by walk_at "b") rfl λ _ _ _ _ _ _ _=>?_
 walk_at "g"
include xs bk in
theorem kN (_:fz T 9 "need_person" "Book.need_person" (inClass (top 15) 1)):jc P w T mg base 9 "need_person" 1 1 aH:=by
 unfold aH cP
 refine cV (k:=0) ["self","name"] (by with_reducible assumption) ⟨rfl,rfl,rfl,by decide +kernel,rfl,by decide +kernel,by decide +kernel⟩ (by walk_at "b") rfl λ _ _ _ _ _ _ _=>?_
 walk_at "g"
include xs bk in
theorem md (_:fz T 9 "need_work" "Book.need_work" (inClass (top 15) 2)):jc P w T mg base 9 "need_work" 1 1 aU:=by
 unfold aU dF
 refine cV (k:=0) ["self","name"] (by with_reducible assumption) ⟨rfl,rfl,rfl,by decide +kernel,rfl,by decide +kernel,by decide +kernel⟩ (by walk_at "b") rfl λ _ _ _ _ _ _ _=>?_
 walk_at "g"
include xs bk in
theorem ng (_:fz T 9 "has_name" "Book.has_name" (inClass (top 15) 3)):jc P w T mg base 9 "has_name" 1 1 b_:=by
 unfold b_ gy
 refine cV (k:=0) ["self","name"] (by with_reducible assumption) ⟨rfl,rfl,rfl,by decide +kernel,rfl,by decide +kernel,by decide +kernel⟩ (by walk_at "b") rfl λ _ _ _ _ _ _ _=>?_
 walk_at "g"
include xs bk gf in
theorem mf (_:fz T 9 "need_free" "Book.need_free" (inClass (top 15) 4)):jc P w T mg base 9 "need_free" 1 2 aV:=by
 unfold aV dG
 refine cV (k:=1) ["self","name"] (by with_reducible assumption) ⟨rfl,rfl,rfl,by decide +kernel,rfl,by decide +kernel,by decide +kernel⟩ (by walk_at "b") rfl λ _ _ _ _ _ _ _=>?_
 walk_at "g"
include xs bk fB cE in
theorem lE (_:fz T 9 "add_person" "Book.add_person" (inClass (top 15) 5)):jc P w T mg base 9 "add_person" 1 3 aZ:=by
 unfold aZ da
 refine cV (k:=2) ["self","name"] (by with_reducible assumption) ⟨rfl,rfl,rfl,by decide +kernel,rfl,by decide +kernel,by decide +kernel⟩ (by walk_at "b") rfl λ _ _ _ _ _ _ _=>?_
 walk_at "g"
include xs bk cE in
theorem nj (_:fz T 9 "add_work" "Book.add_work" (inClass (top 15) 6)):jc P w T mg base 9 "add_work" 1 3 bD:=by
 unfold bD dX
 refine cV (k:=2) ["self","name"] (by with_reducible assumption) ⟨rfl,rfl,rfl,by decide +kernel,rfl,by decide +kernel,by decide +kernel⟩ (by walk_at "b") rfl λ _ _ _ _ _ _ _=>?_
 walk_at "g"
include xs bk bt in
theorem jU (_:fz T 9 "person_names" "Book.person_names" (inClass (top 15) 7)):jc P w T mg base 9 "person_names" 0 1 bB:=by
 unfold bB dO
 refine cV (k:=0) ["self"] (by with_reducible assumption) ⟨rfl,rfl,rfl,by decide +kernel,rfl,by decide +kernel,by decide +kernel⟩ (by walk_at "b") rfl λ _ _ _ _ _ _ _=>?_
 walk_at "g"
include xs bk bt in
theorem lA (_:fz T 9 "work_names" "Book.work_names" (inClass (top 15) 8)):jc P w T mg base 9 "work_names" 0 1 bJ:=by
 unfold bJ eX
 refine cV (k:=0) ["self"] (by with_reducible assumption) ⟨rfl,rfl,rfl,by decide +kernel,rfl,by decide +kernel,by decide +kernel⟩ (by walk_at "b") rfl λ _ _ _ _ _ _ _=>?_
 walk_at "g"
include xs bk cD in
theorem oz (_:fz T 9 "rows_of" "Book.rows_of" (inClass (top 15) 10)):jc P w T mg base 9 "rows_of" 1 2 bz:=by
 unfold bz eY
 refine cV (k:=1) ["self","work"] (by with_reducible assumption) ⟨rfl,rfl,rfl,by decide +kernel,rfl,by decide +kernel,by decide +kernel⟩ (by walk_at "b") rfl λ _ _ _ _ _ _ _=>?_
 walk_at "g"
include xs bk bt bf in
theorem ni (_:fz T 9 "hands_of" "Book.hands_of" (inClass (top 15) 12)):jc P w T mg base 9 "hands_of" 1 2 a_:=by
 unfold a_ dW
 refine cV (k:=1) ["self","person"] (by with_reducible assumption) ⟨rfl,rfl,rfl,by decide +kernel,rfl,by decide +kernel,by decide +kernel⟩ (by walk_at "b") rfl λ _ _ _ _ _ _ _=>?_
 walk_at "g"
include xs bk cD in
theorem m_ (_:fz T 9 "known_of" "Book.known_of" (inClass (top 15) 14)):jc P w T mg base 9 "known_of" 1 2 a9:=by
 unfold a9 dU
 refine cV (k:=1) ["self","work"] (by with_reducible assumption) ⟨rfl,rfl,rfl,by decide +kernel,rfl,by decide +kernel,by decide +kernel⟩ (by walk_at "b") rfl λ _ _ _ _ _ _ _=>?_
 walk_at "g"
include xs bk bt in
theorem l_ (_:fz T 9 "rate_list" "Book.rate_list" (inClass (top 15) 17)):jc P w T mg base 9 "rate_list" 0 1 bT:=by
 unfold bT fI
 refine cV (k:=0) ["self"] (by with_reducible assumption) ⟨rfl,rfl,rfl,by decide +kernel,rfl,by decide +kernel,by decide +kernel⟩ (by walk_at "b") rfl λ _ _ _ _ _ _ _=>?_
 walk_at "g"
include xs bk bf in
theorem m8 (_:fz T 9 "put_keep" "Book.put_keep" (inClass (top 15) 18)):jc P w T mg base 9 "put_keep" 2 2 bC:=by
 unfold bC dS
 refine cV (k:=1) ["self","person","part"] (by with_reducible assumption) ⟨rfl,rfl,rfl,by decide +kernel,rfl,by decide +kernel,by decide +kernel⟩ (by walk_at "b") rfl λ _ _ _ _ _ _ _=>?_
 walk_at "g"
include xs bk bf in
theorem oA (_:fz T 9 "keep_of" "Book.keep_of" (inClass (top 15) 19)):jc P w T mg base 9 "keep_of" 1 2 bA:=by
 unfold bA e_
 refine cV (k:=1) ["self","person"] (by with_reducible assumption) ⟨rfl,rfl,rfl,by decide +kernel,rfl,by decide +kernel,by decide +kernel⟩ (by walk_at "b") rfl λ _ _ _ _ _ _ _=>?_
 walk_at "g"
include xs bk in
theorem m9 (_:fz T 9 "put_half" "Book.put_half" (inClass (top 15) 20)):jc P w T mg base 9 "put_half" 1 1 bN:=by
 unfold bN gw
 refine cV (k:=0) ["self","days"] (by with_reducible assumption) ⟨rfl,rfl,rfl,by decide +kernel,rfl,by decide +kernel,by decide +kernel⟩ (by walk_at "b") rfl λ _ _ _ _ _ _ _=>?_
 walk_at "g"
include xs bk in
theorem mi (_:fz T 9 "half_days" "Book.half_days" (inClass (top 15) 21)):jc P w T mg base 9 "half_days" 0 1 bU:=by
 unfold bU fJ
 refine cV (k:=0) ["self"] (by with_reducible assumption) ⟨rfl,rfl,rfl,by decide +kernel,rfl,by decide +kernel,by decide +kernel⟩ (by walk_at "b") rfl λ _ _ _ _ _ _ _=>?_
 walk_at "g"
include xs bk i6 in
theorem lB (_:fz T 9 "money_list" "Book.money_list" (inClass (top 15) 24)):jc P w T mg base 9 "money_list" 0 2 bK:=by
 unfold bK eZ
 refine cV (k:=1) ["self"] (by with_reducible assumption) ⟨rfl,rfl,rfl,by decide +kernel,rfl,by decide +kernel,by decide +kernel⟩ (by walk_at "b") rfl λ _ _ _ _ _ _ _=>?_
 walk_at "g"
include xs bk i6 in
theorem mj (_:fz T 9 "debt_list" "Book.debt_list" (inClass (top 15) 26)):jc P w T mg base 9 "debt_list" 0 2 bV:=by
 unfold bV fK
 refine cV (k:=1) ["self"] (by with_reducible assumption) ⟨rfl,rfl,rfl,by decide +kernel,rfl,by decide +kernel,by decide +kernel⟩ (by walk_at "b") rfl λ _ _ _ _ _ _ _=>?_
 walk_at "g"
include xs bk gM in
theorem qB (_:Df T mg "_law_begin" (top 17)):gJ P w T mg base "_law_begin" 1 1 dC:=by
 unfold dC jv
 refine cF (k:=0) ["_law_script","_law_cells"] (by with_reducible assumption) ⟨rfl,rfl,rfl,by decide +kernel,rfl,by decide +kernel,by decide +kernel⟩ (by walk_at "b") rfl λ _ _ _ _ _ _ _=>?_
 walk_at "g"
include xs bk gO fQ in
theorem sJ (_:Df T mg "_law_take" (top 18)):gJ P w T mg base "_law_take" 2 1 aO:=by
 unfold aO kq
 refine cF (k:=0) ["_law_state","_law_many","_law_turn","_law_place","_law_cell","_law_mixed","_law_digit"] (by with_reducible assumption) ⟨rfl,rfl,rfl,by decide +kernel,rfl,by decide +kernel,by decide +kernel⟩ (by walk_at "b") rfl λ _ _ _ _ _ _ _=>?_
 walk_at "g"
include xs bk o_ lg o9 aS fQ gM o8 jd o7 in
theorem sL (_:Df T mg "_law_same" (top 19)):∀ n:Nat,gJ P w T mg base "_law_same" 2 (n+1) (ar n):=by
 intro n;induction n with
 | zero=>exact Fd ["_law_found","_law_due_here"] (by with_reducible assumption) rfl (by walk_at "b")
 | succ n ih=>
  unfold ar dw
  refine cF (k:=n+1) ["_law_found","_law_due_here"] (by with_reducible assumption) ⟨rfl,rfl,rfl,by decide +kernel,rfl,by decide +kernel,by decide +kernel⟩ (by walk_at "b") rfl λ _ _ _ _ _ _ _=>?_
  walk_at "g"
include xs bk pb in
theorem pL (_:Df T mg "_law_lowest" (top 20)):gJ P w T mg base "_law_lowest" 2 1 cz:=by
 unfold cz iN
 refine cF (k:=0) ["_law_top","_law_below","_law_sign","_law_one","_law_other"] (by with_reducible assumption) ⟨rfl,rfl,rfl,by decide +kernel,rfl,by decide +kernel,by decide +kernel⟩ (by walk_at "b") rfl λ _ _ _ _ _ _ _=>?_
 walk_at "g"
include xs bk fQ cI bq in
theorem qA (_:Df T mg "_law_names" (top 21)):gJ P w T mg base "_law_names" 2 2 dB:=by
 unfold dB ju
 refine cF (k:=1) ["_law_state","_law_many","_law_some"] (by with_reducible assumption) ⟨rfl,rfl,rfl,by decide +kernel,rfl,by decide +kernel,by decide +kernel⟩ (by walk_at "b") rfl λ _ _ _ _ _ _ _=>?_
 walk_at "g"
include xs bk bq iE in
theorem sM (_:Df T mg "_law_part" (top 22)):gJ P w T mg base "_law_part" 1 2 du:=by
 unfold du kr
 refine cF (k:=1) ["_law_state","_law_below"] (by with_reducible assumption) ⟨rfl,rfl,rfl,by decide +kernel,rfl,by decide +kernel,by decide +kernel⟩ (by walk_at "b") rfl λ _ _ _ _ _ _ _=>?_
 walk_at "g"
include xs bk dj bt in
theorem m4 (_:Df T mg "_law_in_order" (top 23)):gJ P w T mg base "_law_in_order" 1 1 bM:=by
 unfold bM gp
 refine cF (k:=0) ["_law_some"] (by with_reducible assumption) ⟨rfl,rfl,rfl,by decide +kernel,rfl,by decide +kernel,by decide +kernel⟩ (by walk_at "b") rfl λ _ _ _ _ _ _ _=>?_
 walk_at "g"
include xs bk jo in
theorem m3 (_:Df T mg "_law_names_of" (top 24)):gJ P w T mg base "_law_names_of" 1 3 b8:=by
 unfold b8 gn
 refine cF (k:=2) ["_law_state"] (by with_reducible assumption) ⟨rfl,rfl,rfl,by decide +kernel,rfl,by decide +kernel,by decide +kernel⟩ (by walk_at "b") rfl λ _ _ _ _ _ _ _=>?_
 walk_at "g"
include xs bk fQ bq in
theorem vL (_:Df T mg "_law_of" (top 25)):gJ P w T mg base "_law_of" 2 2 gL:=by
 unfold gL nK
 refine cF (k:=1) ["_law_state","_law_some"] (by with_reducible assumption) ⟨rfl,rfl,rfl,by decide +kernel,rfl,by decide +kernel,by decide +kernel⟩ (by walk_at "b") rfl λ _ _ _ _ _ _ _=>?_
 walk_at "g"
include xs bk bq j8 nC in
theorem sN (_:Df T mg "_law_deed" (top 26)):gJ P w T mg base "_law_deed" 3 3 eF:=by
 unfold eF ku
 refine cF (k:=2) ["_law_state","_law_names_here","_law_word","_law_one"] (by with_reducible assumption) ⟨rfl,rfl,rfl,by decide +kernel,rfl,by decide +kernel,by decide +kernel⟩ (by walk_at "b") rfl λ _ _ _ _ _ _ _=>?_
 walk_at "g"
include xs bk eS gh gc gd in
theorem vM (_:Df T mg "_law_do" (top 27)):gJ P w T mg base "_law_do" 2 4 bF:=by
 unfold bF dE
 refine cF (k:=3) ["_law_book","_law_deed_here"] (by with_reducible assumption) ⟨rfl,rfl,rfl,by decide +kernel,rfl,by decide +kernel,by decide +kernel⟩ (by walk_at "b") rfl λ _ _ _ _ _ _ _=>?_
 walk_at "g"
include xs bk cJ aS fQ cI nE in
theorem ow (_:Df T mg "_law_refusal" (top 28)):gJ P w T mg base "_law_refusal" 2 5 cG:=by
 unfold cG g9
 refine cF (k:=4) ["_law_book","_law_deed_here","_law_caught","_law_told","_law_words","error"] (by with_reducible assumption) ⟨rfl,rfl,rfl,by decide +kernel,rfl,by decide +kernel,by decide +kernel⟩ (by walk_at "b") rfl λ _ _ _ _ _ _ _=>?_
 walk_at "g"
include xs bk in
theorem qz (_:Df T mg "_law_world" (top 29)):gJ P w T mg base "_law_world" 0 1 cM:=by
 unfold cM jt
 refine cF (k:=0) ["_law_found"] (by with_reducible assumption) ⟨rfl,rfl,rfl,by decide +kernel,rfl,by decide +kernel,by decide +kernel⟩ (by walk_at "b") rfl λ _ _ _ _ _ _ _=>?_
 walk_at "g"
include xs bk in
theorem uy (_:Df T mg "_law_due" (top 30)):gJ P w T mg base "_law_due" 2 1 fH:=by
 unfold fH lT
 refine cF (k:=0) ["_law_world_here","_law_deed_here","_law_people","_law_works"] (by with_reducible assumption) ⟨rfl,rfl,rfl,by decide +kernel,rfl,by decide +kernel,by decide +kernel⟩ (by walk_at "b") rfl λ _ _ _ _ _ _ _=>?_
 walk_at "g"
include xs bk dN eQ dq cS cR fE dt fF eR fG in
theorem m7 (_:Df T mg "_law_all_told" (top 31)):gJ P w T mg base "_law_all_told" 1 3 aN:=by
 unfold aN gu
 refine cF (k:=2) ["_law_book","_law_found","_law_works","_law_people"] (by with_reducible assumption) ⟨rfl,rfl,rfl,by decide +kernel,rfl,by decide +kernel,by decide +kernel⟩ (by walk_at "b") rfl λ _ _ _ _ _ _ _=>?_
 walk_at "g"
include xs bk bt f_ in
theorem oy (_:Df T mg "_law_all_due" (top 32)):gJ P w T mg base "_law_all_due" 1 2 bx:=by
 unfold bx g_
 refine cF (k:=1) ["_law_world_here","_law_found","_law_works","_law_people"] (by with_reducible assumption) ⟨rfl,rfl,rfl,by decide +kernel,rfl,by decide +kernel,by decide +kernel⟩ (by walk_at "b") rfl λ _ _ _ _ _ _ _=>?_
 walk_at "g"
include xs bk fQ cI bq fV j9 gZ lK cQ dn in
theorem pJ (_:Df T mg "_law_walked" (top 33)):gJ P w T mg base "_law_walked" 6 11 cx:=by
 unfold cx iL
 refine cF (k:=10) ["_law_state","_law_book","_law_world_here","_law_names_here","_law_words","_law_many","_law_turn","_law_deed_here","_law_due_here"] (by with_reducible assumption) ⟨rfl,rfl,rfl,by decide +kernel,rfl,by decide +kernel,by decide +kernel⟩ (by walk_at "b") rfl λ _ _ _ _ _ _ _=>?_
 walk_at "g"
include xs bk aS dq cS cR dt in
theorem m5 (_:Df T mg "_law_asked_of" (top 34)):gJ P w T mg base "_law_asked_of" 3 3 b9:=by
 unfold b9 gq
 refine cF (k:=2) ["_law_book","_law_way","_law_name","_law_caught","error"] (by with_reducible assumption) ⟨rfl,rfl,rfl,by decide +kernel,rfl,by decide +kernel,by decide +kernel⟩ (by walk_at "b") rfl λ _ _ _ _ _ _ _=>?_
 walk_at "g"
include xs bk cI gb in
theorem lz (_:Df T mg "_law_asks_right" (top 35)):gJ P w T mg base "_law_asks_right" 3 4 aY:=by
 unfold aY eW
 refine cF (k:=3) ["_law_book","_law_world_here","_law_names_here","_law_name","_law_way","_law_there"] (by with_reducible assumption) ⟨rfl,rfl,rfl,by decide +kernel,rfl,by decide +kernel,by decide +kernel⟩ (by walk_at "b") rfl λ _ _ _ _ _ _ _=>?_
 walk_at "g"
include xs bk aS gM in
theorem pK (_:Df T mg "_law_spoilt" (top 36)):gJ P w T mg base "_law_spoilt" 1 1 cy:=by
 unfold cy iM
 refine cF (k:=0) ["_law_found","_law_one"] (by with_reducible assumption) ⟨rfl,rfl,rfl,by decide +kernel,rfl,by decide +kernel,by decide +kernel⟩ (by walk_at "b") rfl λ _ _ _ _ _ _ _=>?_
 walk_at "g"
include xs bk cI gm jq bq fV f9 jn cQ dn iC eO iD in
theorem HI {f:Addr}{fd:FuncData}(F:Cu T.K "law" "law" (top 37) f fd):gA P w T.K mg base (nM P w) 12 f fd ["_law_script"] (yO T 1 qc):=by
 unfold qc Co
 have S:iy ["_law_script","_law_state","_law_names_here","_law_turn","_law_book","_law_world_here"] ["_law_script"] (ax (top 37)):=⟨rfl,rfl,rfl,by decide +kernel,rfl,by decide +kernel,by decide +kernel⟩
 refine tw (k:=11) F S λ dD A outer s H E hr=>?_
 have nd:=S.nd
 have ls:Ls T (jE (nM P w) P w T.K mg base ["_law_script","_law_state","_law_names_here","_law_turn","_law_book","_law_world_here"] "law" (ax (top 37)) f dD A outer s H E) (kQ T E):=uG
 have uN:=FY hr;have hu:=LL hr;walk_at "q"
end
theorem Ju {P:Program}{w:World}{T:Tx}{mg:Str->Option Value}{base:Heap}(xs:Xs T mg)(bk:Bk T 9 ["keeps","rows","hands","makers","rates","half","money","debts"])(cJ:mg "ValueError"=none)(pb:mg "abs"=none)(o_:mg "all"=none)(lg:mg "bool"=none)(gO:mg "divmod"=none)(dj:mg "enumerate"=none)(o9:mg "int"=none)(aS:mg "isinstance"=none)(fQ:mg "len"=none)(gM:mg "list"=none)(cI:mg "range"=none)(bt:mg "sorted"=none)(o8:mg "str"=none)(jd:mg "tuple"=none)(o7:mg "zip"=none)(bu:CN T mg "FIRST_HALF_DAYS" cq)(fB:CN T mg "NOTHING" kE)(d0:Nf T mg "by_days" (top 14) 20) (d1:Ng T mg 9 "Book" "Book.__init__" (inClass (top 15) 0)) (d2:fz T 9 "need_person" "Book.need_person" (inClass (top 15) 1)) (d3:fz T 9 "need_work" "Book.need_work" (inClass (top 15) 2)) (d4:fz T 9 "has_name" "Book.has_name" (inClass (top 15) 3)) (d5:fz T 9 "need_free" "Book.need_free" (inClass (top 15) 4)) (d6:fz T 9 "add_person" "Book.add_person" (inClass (top 15) 5)) (d7:fz T 9 "add_work" "Book.add_work" (inClass (top 15) 6)) (d8:fz T 9 "person_names" "Book.person_names" (inClass (top 15) 7)) (d9:fz T 9 "work_names" "Book.work_names" (inClass (top 15) 8)) (M0:fz T 9 "rows_of" "Book.rows_of" (inClass (top 15) 10)) (MZ:fz T 9 "hands_of" "Book.hands_of" (inClass (top 15) 12)) (MY:fz T 9 "known_of" "Book.known_of" (inClass (top 15) 14)) (MX:fz T 9 "rate_list" "Book.rate_list" (inClass (top 15) 17)) (MW:fz T 9 "put_keep" "Book.put_keep" (inClass (top 15) 18)) (MV:fz T 9 "keep_of" "Book.keep_of" (inClass (top 15) 19)) (MU:fz T 9 "put_half" "Book.put_half" (inClass (top 15) 20)) (MT:fz T 9 "half_days" "Book.half_days" (inClass (top 15) 21)) (MS:fz T 9 "money_list" "Book.money_list" (inClass (top 15) 24)) (MR:fz T 9 "debt_list" "Book.debt_list" (inClass (top 15) 26)) (MQ:Df T mg "_law_begin" (top 17)) (MP:Df T mg "_law_take" (top 18)) (MO:Df T mg "_law_same" (top 19)) (MN:Df T mg "_law_lowest" (top 20)) (MM:Df T mg "_law_names" (top 21)) (ML:Df T mg "_law_part" (top 22)) (MK:Df T mg "_law_in_order" (top 23)) (MJ:Df T mg "_law_names_of" (top 24)) (MI:Df T mg "_law_of" (top 25)) (MH:Df T mg "_law_deed" (top 26)) (MG:Df T mg "_law_do" (top 27)) (MF:Df T mg "_law_refusal" (top 28)) (ME:Df T mg "_law_world" (top 29)) (MD:Df T mg "_law_due" (top 30)) (MC:Df T mg "_law_all_told" (top 31)) (MB:Df T mg "_law_all_due" (top 32)) (MA:Df T mg "_law_walked" (top 33)) (Mz:Df T mg "_law_asked_of" (top 34)) (My:Df T mg "_law_asks_right" (top 35)) (Mx:Df T mg "_law_spoilt" (top 36)) (Mw:Df T mg "law" (top 37)) {f:Addr}{fd:FuncData}(F:Cu T.K "law" "law" (top 37) f fd) :
  gA P w T.K mg base (nM P w) 12 f fd ["_law_script"] (yO T 1 qc):=by
 have i6:=vK (P:=P) (w:=w) (base:=base) xs bk bt d0
 have gm:=nk (P:=P) (w:=w) (base:=base) xs bk bu d1
 have bf:=kN (P:=P) (w:=w) (base:=base) xs bk d2
 have cD:=md (P:=P) (w:=w) (base:=base) xs bk d3
 have gf:=ng (P:=P) (w:=w) (base:=base) xs bk d4
 have cE:=mf (P:=P) (w:=w) (base:=base) xs bk gf d5
 have eS:=lE (P:=P) (w:=w) (base:=base) xs bk fB cE d6
 have gh:=nj (P:=P) (w:=w) (base:=base) xs bk cE d7
 have dN:=jU (P:=P) (w:=w) (base:=base) xs bk bt d8
 have eQ:=lA (P:=P) (w:=w) (base:=base) xs bk bt d9
 have dq:=oz (P:=P) (w:=w) (base:=base) xs bk cD M0
 have cS:=ni (P:=P) (w:=w) (base:=base) xs bk bt bf MZ
 have cR:=m_ (P:=P) (w:=w) (base:=base) xs bk cD MY
 have fE:=l_ (P:=P) (w:=w) (base:=base) xs bk bt MX
 have gc:=m8 (P:=P) (w:=w) (base:=base) xs bk bf MW
 have dt:=oA (P:=P) (w:=w) (base:=base) xs bk bf MV
 have gd:=m9 (P:=P) (w:=w) (base:=base) xs bk MU
 have fF:=mi (P:=P) (w:=w) (base:=base) xs bk MT
 have eR:=lB (P:=P) (w:=w) (base:=base) xs bk i6 MS
 have fG:=mj (P:=P) (w:=w) (base:=base) xs bk i6 MR
 have jq:=qB (P:=P) (w:=w) (base:=base) xs bk gM MQ
 have bq:=sJ (P:=P) (w:=w) (base:=base) xs bk gO fQ MP
 have fV:=sL (P:=P) (w:=w) (base:=base) xs bk o_ lg o9 aS fQ gM o8 jd o7 MO 9
 have iE:=pL (P:=P) (w:=w) (base:=base) xs bk pb MN
 have jo:=qA (P:=P) (w:=w) (base:=base) xs bk fQ cI bq MM
 have j8:=sM (P:=P) (w:=w) (base:=base) xs bk bq iE ML
 have f_:=m4 (P:=P) (w:=w) (base:=base) xs bk dj bt MK
 have f9:=m3 (P:=P) (w:=w) (base:=base) xs bk jo MJ
 have nC:=vL (P:=P) (w:=w) (base:=base) xs bk fQ bq MI
 have j9:=sN (P:=P) (w:=w) (base:=base) xs bk bq j8 nC MH
 have nE:=vM (P:=P) (w:=w) (base:=base) xs bk eS gh gc gd MG
 have gZ:=ow (P:=P) (w:=w) (base:=base) xs bk cJ aS fQ cI nE MF
 have jn:=qz (P:=P) (w:=w) (base:=base) xs bk ME
 have lK:=uy (P:=P) (w:=w) (base:=base) xs bk MD
 have cQ:=m7 (P:=P) (w:=w) (base:=base) xs bk dN eQ dq cS cR fE dt fF eR fG MC
 have dn:=oy (P:=P) (w:=w) (base:=base) xs bk bt f_ MB
 have iC:=pJ (P:=P) (w:=w) (base:=base) xs bk fQ cI bq fV j9 gZ lK cQ dn MA
 have gb:=m5 (P:=P) (w:=w) (base:=base) xs bk aS dq cS cR dt Mz
 have eO:=lz (P:=P) (w:=w) (base:=base) xs bk cI gb My
 have iD:=pK (P:=P) (w:=w) (base:=base) xs bk aS gM Mx
 exact HI xs bk cI gm jq bq fV f9 jn cQ dn iC eO iD F
theorem Jj {l:PySem.W.OpenLaw}{w:World}{K:PySem.W.Frag}{h:Heap}{mg:Str->Option Value}{fa c0 c1 c2 c3 c4 c5 c6 c7 c8 cB t0:Addr}{i7 i8:Option Value}(X:K.In h)(G:h.Ns mainGlobals mg)(PN:mg "law"=some (.ref fa)) (x0:t9 K mg c0 "RoyalError" oY none)(x1:t9 K mg c1 "BadFraction" (.ref c0 :: oY) none) (x2:t9 K mg c2 "Taken" (.ref c0 :: oY) none) (x3:t9 K mg c3 "NoName" (.ref c0 :: oY) none) (x4:t9 K mg c4 "TooMuch" (.ref c0 :: oY) none) (x5:t9 K mg c5 "NoRate" (.ref c0 :: oY) none) (x6:t9 K mg c6 "NoneLeft" (.ref c0 :: oY) none) (x7:t9 K mg c7 "Endless" (.ref c0 :: oY) i7) (x8:t9 K mg c8 "BadRow" (.ref c0 :: oY) i8) (b:NY K cB ["keeps","rows","hands","makers","rates","half","money","debts"])(cJ:PySem.W.nsIn K mainGlobals "ValueError"=some none)(pb:PySem.W.nsIn K mainGlobals "abs"=some none)(o_:PySem.W.nsIn K mainGlobals "all"=some none)(lg:PySem.W.nsIn K mainGlobals "bool"=some none)(gO:PySem.W.nsIn K mainGlobals "divmod"=some none)(dj:PySem.W.nsIn K mainGlobals "enumerate"=some none)(o9:PySem.W.nsIn K mainGlobals "int"=some none)(aS:PySem.W.nsIn K mainGlobals "isinstance"=some none)(fQ:PySem.W.nsIn K mainGlobals "len"=some none)(gM:PySem.W.nsIn K mainGlobals "list"=some none)(cI:PySem.W.nsIn K mainGlobals "range"=some none)(bt:PySem.W.nsIn K mainGlobals "sorted"=some none)(o8:PySem.W.nsIn K mainGlobals "str"=some none)(jd:PySem.W.nsIn K mainGlobals "tuple"=some none)(o7:PySem.W.nsIn K mainGlobals "zip"=some none)(bu:CN ⟨K,cu [c0,c1,c2,c3,c4,c5,c6,c7,c8,cB] [t0]⟩ mg "FIRST_HALF_DAYS" cq)(fB:CN ⟨K,cu [c0,c1,c2,c3,c4,c5,c6,c7,c8,cB] [t0]⟩ mg "NOTHING" kE)(d0:Nf ⟨K,cu [c0,c1,c2,c3,c4,c5,c6,c7,c8,cB] [t0]⟩ mg "by_days" (top 14) 20) (d1:Ng ⟨K,cu [c0,c1,c2,c3,c4,c5,c6,c7,c8,cB] [t0]⟩ mg 9 "Book" "Book.__init__" (inClass (top 15) 0)) (d2:fz ⟨K,cu [c0,c1,c2,c3,c4,c5,c6,c7,c8,cB] [t0]⟩ 9 "need_person" "Book.need_person" (inClass (top 15) 1)) (d3:fz ⟨K,cu [c0,c1,c2,c3,c4,c5,c6,c7,c8,cB] [t0]⟩ 9 "need_work" "Book.need_work" (inClass (top 15) 2)) (d4:fz ⟨K,cu [c0,c1,c2,c3,c4,c5,c6,c7,c8,cB] [t0]⟩ 9 "has_name" "Book.has_name" (inClass (top 15) 3)) (d5:fz ⟨K,cu [c0,c1,c2,c3,c4,c5,c6,c7,c8,cB] [t0]⟩ 9 "need_free" "Book.need_free" (inClass (top 15) 4)) (d6:fz ⟨K,cu [c0,c1,c2,c3,c4,c5,c6,c7,c8,cB] [t0]⟩ 9 "add_person" "Book.add_person" (inClass (top 15) 5)) (d7:fz ⟨K,cu [c0,c1,c2,c3,c4,c5,c6,c7,c8,cB] [t0]⟩ 9 "add_work" "Book.add_work" (inClass (top 15) 6)) (d8:fz ⟨K,cu [c0,c1,c2,c3,c4,c5,c6,c7,c8,cB] [t0]⟩ 9 "person_names" "Book.person_names" (inClass (top 15) 7)) (d9:fz ⟨K,cu [c0,c1,c2,c3,c4,c5,c6,c7,c8,cB] [t0]⟩ 9 "work_names" "Book.work_names" (inClass (top 15) 8)) (M0:fz ⟨K,cu [c0,c1,c2,c3,c4,c5,c6,c7,c8,cB] [t0]⟩ 9 "rows_of" "Book.rows_of" (inClass (top 15) 10)) (MZ:fz ⟨K,cu [c0,c1,c2,c3,c4,c5,c6,c7,c8,cB] [t0]⟩ 9 "hands_of" "Book.hands_of" (inClass (top 15) 12)) (MY:fz ⟨K,cu [c0,c1,c2,c3,c4,c5,c6,c7,c8,cB] [t0]⟩ 9 "known_of" "Book.known_of" (inClass (top 15) 14)) (MX:fz ⟨K,cu [c0,c1,c2,c3,c4,c5,c6,c7,c8,cB] [t0]⟩ 9 "rate_list" "Book.rate_list" (inClass (top 15) 17)) (MW:fz ⟨K,cu [c0,c1,c2,c3,c4,c5,c6,c7,c8,cB] [t0]⟩ 9 "put_keep" "Book.put_keep" (inClass (top 15) 18)) (MV:fz ⟨K,cu [c0,c1,c2,c3,c4,c5,c6,c7,c8,cB] [t0]⟩ 9 "keep_of" "Book.keep_of" (inClass (top 15) 19)) (MU:fz ⟨K,cu [c0,c1,c2,c3,c4,c5,c6,c7,c8,cB] [t0]⟩ 9 "put_half" "Book.put_half" (inClass (top 15) 20)) (MT:fz ⟨K,cu [c0,c1,c2,c3,c4,c5,c6,c7,c8,cB] [t0]⟩ 9 "half_days" "Book.half_days" (inClass (top 15) 21)) (MS:fz ⟨K,cu [c0,c1,c2,c3,c4,c5,c6,c7,c8,cB] [t0]⟩ 9 "money_list" "Book.money_list" (inClass (top 15) 24)) (MR:fz ⟨K,cu [c0,c1,c2,c3,c4,c5,c6,c7,c8,cB] [t0]⟩ 9 "debt_list" "Book.debt_list" (inClass (top 15) 26)) (MQ:Df ⟨K,cu [c0,c1,c2,c3,c4,c5,c6,c7,c8,cB] [t0]⟩ mg "_law_begin" (top 17)) (MP:Df ⟨K,cu [c0,c1,c2,c3,c4,c5,c6,c7,c8,cB] [t0]⟩ mg "_law_take" (top 18)) (MO:Df ⟨K,cu [c0,c1,c2,c3,c4,c5,c6,c7,c8,cB] [t0]⟩ mg "_law_same" (top 19)) (MN:Df ⟨K,cu [c0,c1,c2,c3,c4,c5,c6,c7,c8,cB] [t0]⟩ mg "_law_lowest" (top 20)) (MM:Df ⟨K,cu [c0,c1,c2,c3,c4,c5,c6,c7,c8,cB] [t0]⟩ mg "_law_names" (top 21)) (ML:Df ⟨K,cu [c0,c1,c2,c3,c4,c5,c6,c7,c8,cB] [t0]⟩ mg "_law_part" (top 22)) (MK:Df ⟨K,cu [c0,c1,c2,c3,c4,c5,c6,c7,c8,cB] [t0]⟩ mg "_law_in_order" (top 23)) (MJ:Df ⟨K,cu [c0,c1,c2,c3,c4,c5,c6,c7,c8,cB] [t0]⟩ mg "_law_names_of" (top 24)) (MI:Df ⟨K,cu [c0,c1,c2,c3,c4,c5,c6,c7,c8,cB] [t0]⟩ mg "_law_of" (top 25)) (MH:Df ⟨K,cu [c0,c1,c2,c3,c4,c5,c6,c7,c8,cB] [t0]⟩ mg "_law_deed" (top 26)) (MG:Df ⟨K,cu [c0,c1,c2,c3,c4,c5,c6,c7,c8,cB] [t0]⟩ mg "_law_do" (top 27)) (MF:Df ⟨K,cu [c0,c1,c2,c3,c4,c5,c6,c7,c8,cB] [t0]⟩ mg "_law_refusal" (top 28)) (ME:Df ⟨K,cu [c0,c1,c2,c3,c4,c5,c6,c7,c8,cB] [t0]⟩ mg "_law_world" (top 29)) (MD:Df ⟨K,cu [c0,c1,c2,c3,c4,c5,c6,c7,c8,cB] [t0]⟩ mg "_law_due" (top 30)) (MC:Df ⟨K,cu [c0,c1,c2,c3,c4,c5,c6,c7,c8,cB] [t0]⟩ mg "_law_all_told" (top 31)) (MB:Df ⟨K,cu [c0,c1,c2,c3,c4,c5,c6,c7,c8,cB] [t0]⟩ mg "_law_all_due" (top 32)) (MA:Df ⟨K,cu [c0,c1,c2,c3,c4,c5,c6,c7,c8,cB] [t0]⟩ mg "_law_walked" (top 33)) (Mz:Df ⟨K,cu [c0,c1,c2,c3,c4,c5,c6,c7,c8,cB] [t0]⟩ mg "_law_asked_of" (top 34)) (My:Df ⟨K,cu [c0,c1,c2,c3,c4,c5,c6,c7,c8,cB] [t0]⟩ mg "_law_asks_right" (top 35)) (Mx:Df ⟨K,cu [c0,c1,c2,c3,c4,c5,c6,c7,c8,cB] [t0]⟩ mg "_law_spoilt" (top 36)) (Mw:Df ⟨K,cu [c0,c1,c2,c3,c4,c5,c6,c7,c8,cB] [t0]⟩ mg "law" (top 37)):∃ fd:FuncData,(∀ (s:Shared) (v:Value),BindsTo s fd ⟨[v],[]⟩ [("_law_script",v)])/\∀ base:Heap,K.In base->base.Ns mainGlobals mg->gA l.prog w K mg base (nM l.prog w) 12 fa fd ["_law_script"] (spT K [t0] [(20,"by_days.<locals>.<lambda>")] qc):=
 Ff PN rfl Mw (λ _ _ _ _ _ _ _ _=>.of_eq rfl) λ base f fd F=>Ju (JX x0 x1 x2 x3 x4 x5 x6 x7 x8) (b.bk rfl) (PySem.W.mg_none_of X G cJ) (PySem.W.mg_none_of X G pb) (PySem.W.mg_none_of X G o_) (PySem.W.mg_none_of X G lg) (PySem.W.mg_none_of X G gO) (PySem.W.mg_none_of X G dj) (PySem.W.mg_none_of X G o9) (PySem.W.mg_none_of X G aS) (PySem.W.mg_none_of X G fQ) (PySem.W.mg_none_of X G gM) (PySem.W.mg_none_of X G cI) (PySem.W.mg_none_of X G bt) (PySem.W.mg_none_of X G o8) (PySem.W.mg_none_of X G jd) (PySem.W.mg_none_of X G o7) bu fB d0 d1 d2 d3 d4 d5 d6 d7 d8 d9 M0 MZ MY MX MW MV MU MT MS MR MQ MP MO MN MM ML MK MJ MI MH MG MF ME MD MC MB MA Mz My Mx Mw F
end Ro
namespace Ro
open PySem L2
end Ro
namespace L2
open PySem PySem.Spec PyProof.Rows
end L2
namespace Ro
open PySem L2
end Ro
namespace Ro
open PySem L2
abbrev Fs:=List (Int × Int)
def den:Fs->Int
 | []=>1
 | f :: r=>f.2 * den r
def num:Fs->Int
 | []=>0
 | f :: r=>f.1 * den r+f.2 * num r
def Qp (fs:Fs):Prop:=∀ f∈fs,1<=f.2
theorem den_pos:∀ {fs:Fs},Qp fs->1<=den fs
 | [],_=>by decide
 | f :: r,h=>by
  have h1:1<=f.2:=h f List.mem_cons_self
  have h2:=den_pos (fs:=r) λ g hg=>h g (List.mem_cons_of_mem _ hg)
  show 1<=f.2 * den r
  have:=Int.mul_pos (show 0 < f.2 by omega) (show 0 < den r by omega)
  omega
end Ro
namespace Ro
open PySem L2
abbrev ig (a b:Int):Int:=((Int.gcd a b:Nat):Int)
end Ro
namespace Ro
open PySem L2 Mm
def fq (q:Rat):AV:=.tup [.int q.num,.int q.den]
theorem Dn (q:Rat):Int.gcd q.num (q.den:Int)=1:=q.reduced
theorem Dm (q:Rat):(1:Int)<=(q.den:Int):=by have:=q.den_pos;omega
theorem BH {t b:Int}(h:b≠0):fr t b=((Rat.divInt t b).num,((Rat.divInt t b).den:Int)):=by
 refine E9 h (Dm _) (Dn _) ?_
 have e:=Rat.num_divInt_den (Rat.divInt t b)
 have:=(Rat.divInt_eq_divInt_iff (by have:=(Rat.divInt t b).den_pos;omega) h).mp e
 exact this
structure Sz (n:Nat)(q:Rat):Prop where
 a:eJ n q.num
 b:eJ n (q.den:Int)
theorem Mh {t b:Int}{n:Nat}(h:b≠0)(ft:eJ n t)(fb:eJ n b):Sz n (Rat.divInt t b):=by
 have e:=BH (t:=t) h
 have e1:(fr t b).1=(Rat.divInt t b).num:=by rw[e]
 have e2:(fr t b).2=((Rat.divInt t b).den:Int):=by rw[e]
 have g:=Jd (t:=t) h
 refine⟨?_,?_⟩
 ·rw[<-e1]
  have h1:=Jf t b
  refine ft.le ?_
  have:t.natAbs=(fr t b).1.natAbs * (p8 t b).natAbs:=by rw[<-Int.natAbs_mul,h1]
  rw[this]
  exact Nat.le_mul_of_pos_right _ (by omega)
 ·rw[<-e2]
  have h1:=E_ t b
  refine fb.le ?_
  have:b.natAbs=(fr t b).2.natAbs * (p8 t b).natAbs:=by rw[<-Int.natAbs_mul,h1]
  rw[this]
  exact Nat.le_mul_of_pos_right _ (by omega)
theorem we {n:Nat}{i:Int}(h:eJ n i)(k:n<=60000000):CO i:=⟨h.mono k⟩
theorem A2 {n:Nat}{i:Int}(h:eJ n i)(k:n<=9000):JA i:=⟨h.mono k⟩
theorem Fb {x y:Int}(hx:0<=x)(hy:0 < y):0<=x.fmod y/\x.fmod y < y:=by
 rw[Int.fmod_eq_emod_of_nonneg _ (by omega)]
 exact⟨Int.emod_nonneg _ (by omega),Int.emod_lt_of_pos _ hy⟩
theorem ET {x y:Int}(hy:0 < y):ig y (x.fmod y)=ig x y:=by
 rw[Int.fmod_eq_emod_of_nonneg _ (by omega)]
 show((Int.gcd y (x % y):Nat):Int)=((Int.gcd x y:Nat):Int)
 congr 1
 rw[Int.gcd_comm]
 have h1:=Int.emod_def x y
 rw[h1,Int.gcd_sub_mul_left_left]
theorem IT (a b:Int):ig (if a < 0 then -a else a) (if b < 0 then -b else b)=ig a b:=by
 show((Int.gcd _ _:Nat):Int)=((Int.gcd a b:Nat):Int)
 congr 1
 split<;>split<;>simp[Int.gcd_neg,Int.neg_gcd]
theorem LF {a b:Int}(h:b≠0):ig a b≠0:=by have:=mI (t:=a) h;show((Int.gcd a b:Nat):Int)≠0;omega
theorem BQ {a b:Int}{n:Nat}(h:b≠0)(f:eJ n b):eJ n (ig a b):=f.le (by
 show((Int.gcd a b:Nat):Int).natAbs<=_
 rw[Int.natAbs_natCast]
 exact Nat.le_of_dvd (by omega) (Int.gcd_dvd_natAbs_right a b))
theorem aM (s:S)(xs:List AV):ak (s++[.lst xs]) s.length=some xs:=by
 unfold ak;simp
end Ro
namespace Mm
open PySem L2
mutual
theorem AV.low.mono {b c:Nat}(h:b<=c):∀ {v:AV},v.low b=true->v.low c=true
 | .ref i,k=>by simp only[AV.low,decide_eq_true_eq]at k ⊢;omega
 | .tup xs,k=>by simp only[AV.low]at k ⊢;exact aG.mono h k
 | .sq xs,k=>by simp only[AV.low]at k ⊢;exact aG.mono h k
 | .az,_=>by simp only[AV.low]
 | .bl _,_=>by simp only[AV.low]
 | .int _,_=>by simp only[AV.low]
 | .str _,_=>by simp only[AV.low]
theorem aG.mono {b c:Nat}(h:b<=c):∀ {l:List AV},aG b l=true->aG c l=true
 | [],_=>by simp only[aG]
 | v :: r,k=>by
  simp only[aG,Bool.and_eq_true]at k ⊢
  exact⟨AV.low.mono h k.1,aG.mono h k.2⟩
end
theorem AO.low.mono {b c:Nat}(h:b<=c){o:AO}(k:o.low b=true):o.low c=true:=by
 cases o<;>first|exact aG.mono h k|rfl
def Cl (s:S):Prop:=s.all (AO.low s.length)=true
theorem Cl.add {s e:S}(h:Cl s)(k:e.all (AO.low (s.length+e.length))=true):Cl (s++e):=by
 unfold Cl at *
 rw[List.all_append,List.length_append,k,Bool.and_true]
 rw[List.all_eq_true]at h ⊢
 exact λ o ho=>AO.low.mono (by omega) (h o ho)
theorem Cl.set {s:S}{i:Nat}{o:AO}(h:Cl s)(k:o.low s.length=true):Cl (s.set i o):=by
 unfold Cl at *
 rw[List.length_set]
 rw[List.all_eq_true]at h ⊢
 intro x hx
 rcases List.mem_or_eq_of_mem_set hx with hx|rfl
 ·exact h x hx
 ·exact k
theorem aq {s e:S}{k:Nat}{xs:List AV}(h:ak s k=some xs):ak (s++e) k=some xs:=by
 have:=aw h
 refine cC ?_
 have hk:k < s.length:=(List.getElem?_eq_some_iff.mp this).1
 rw[List.getElem?_append_left hk];exact this
theorem Ca {st:S}{i j:Nat}{xs ys:List AV}(h1:ak st i=some xs)(h2:ak st j=some ys)(hl:xs.length+ys.length<=sizeLine):cZ (.ref i) (.ref j) st=.ok (.ref st.length) (st++[.lst (xs++ys)]):=by
 show(need (ak st i) λ xs=>need (ak st j) λ ys=>if xs.length+ys.length<=sizeLine then R.ok (AV.ref st.length) (st++[.lst (xs++ys)]) else .bad)=_
 rw[h1,aj,h2,aj,if_pos hl]
end Mm
namespace Ro
open PySem L2 Mm
end Ro
namespace Mm
open PySem L2
end Mm
namespace Ro
open PySem L2 Mm
theorem xZ (l:List Str):(au l).length=l.length:=(gU l).length_eq
theorem uI (A B C:Option AV):∀ (n:Nat) (x y:Int) (s:S),0<=x->0<=y->y.natAbs < n->
  Cy (cB (ae vJ (mv 4) (mc (.int 0)))) (oo 3 4 (aa (mv 4) (aa (ae hW (mv 3) (mv 4)) ag))) n [A,B,C,some (.int x),some (.int y)] s=.nx [A,B,C,some (.int (ig x y)),some (.int 0)] s
 | 0,_,_,_,_,_,h=>absurd h (Nat.not_lt_zero _)
 | n+1,x,y,s,hx,hy,h=>by
  unfold Cy
  have e:cB (ae vJ (mv 4) (mc (.int 0))) [A,B,C,some (.int x),some (.int y)] s=.ok (decide (0 < y)) s:=rfl
  rw[e,ja]
  by_cases h0:y=0
  ·subst h0
   rw[if_neg (by simp)]
   rw[show ig x 0=x by show((Int.gcd x 0:Nat):Int)=x;rw[Int.gcd_zero_right];omega]
  ·have Pg:0 < y:=by omega
   obtain⟨m1,m2⟩:=Fb hx Pg
   rw[if_pos (by simpa using Pg)]
   have e2:oo 3 4 (aa (mv 4) (aa (ae hW (mv 3) (mv 4)) ag)) [A,B,C,some (.int x),some (.int y)] s=.nx [A,B,C,some (.int y),some (.int (x.fmod y))] s:=by
    have e3:hW (.int x) (.int y) s=.ok (.int (x.fmod y)) s:=if_pos h0
    show((hW (.int x) (.int y) s).bind _ |>.bind _).dI _=_
    rw[e3];rfl
   rw[e2]
   show Cy _ _ n _ s=_
   rw[uI A B C n y (x.fmod y) s hy m1 (by omega),ET Pg]
theorem BG (A B C X:Option AV)(y:Int):Gf [A,B,C,X,some (.int y)]=y.natAbs+1:=rfl
theorem yj {a b:Int}(s:S)(h:b≠0)(fb:eJ 9000 b)(fa:eJ 60000000 a):cz [.int a,.int b] s=.ok (fq (Rat.divInt a b)) s:=by
 have e:=(IC a b h).trans (BH (t:=a) h)
 have e1:((if b < 0 then -1 else 1) * a).fdiv (ig a b)=(Rat.divInt a b).num:=congrArg Prod.fst e
 have e2:((if b < 0 then -1 else 1) * b).fdiv (ig a b)=((Rat.divInt a b).den:Int):=congrArg Prod.snd e
 have g:=LF (a:=a) h
 have fg:JA (ig a b):=A2 (BQ h fb) (Nat.le_refl _)
 have bs:∀ c:Prop,[Decidable c]->CO (if c then -1 else 1):=λ c _=>by
  split
  ·exact we (n:=1) (by show(-1:Int).natAbs < 2 ^ 1;decide) (by decide)
  ·exact we (n:=1) (by show(1:Int).natAbs < 2 ^ 1;decide) (by decide)
 have bb:CO b:=⟨fb.mono (by decide)⟩
 have ba:CO a:=⟨fa⟩
 apply R.wp.eq
 unfold cz iN
 simp only[↓WS,↓WE,↓WV,Lq,af,UU,Nat.reduceSub,↓reduceIte,↓Gz,BG]
 rw[qo (uI _ _ _ _ _ _ s (by split<;>omega) (by split<;>omega) (Nat.lt_succ_self _)),IT]
 walk_at "w"
 by_cases c:b < 0
 ·simp only[c,if_true]at e1 e2 ⊢
  have b1:=bs True
  rw[if_pos trivial]at b1
  refine⟨⟨b1,ba⟩,⟨g,fg⟩,⟨b1,bb⟩,⟨g,fg⟩,?_⟩
  rw[e1,e2];rfl
 ·simp only[c,if_false]at e1 e2 ⊢
  have b1:=bs False
  rw[if_neg (λ z=>z)]at b1
  refine⟨⟨b1,ba⟩,⟨g,fg⟩,⟨b1,bb⟩,⟨g,fg⟩,?_⟩
  rw[e1,e2];rfl
end Ro
namespace Mm
open PySem L2
theorem pd (a:Mt)(r:xJ)(v:AV)(w:List AV)(env:En)(s:S)(N:En->S->Prop)(T:AV->S->Prop):(aT a r (v :: w) env s).wp N T=(a v env s).wp (λ e s1=>(r w e s1).wp N T) T:=by
 show(match a v env s with|.nx e s1=>r w e s1|q=>q).wp N _=_
 cases a v env s<;>rfl
theorem zh (o i:Ev)(v:AV)(env:En)(s:S)(N:En->S->Prop)(T:AV->S->Prop):(j_ o i v env s).wp N T=(o env s).wp λ a s1=>(i env s1).wp λ b s2=>(match a,b with
 | .ref k,.int j=>match ak s2 k with
  | some xs=>match xb xs.length j with
   | some n=>RS.nx env (s2.set k (.lst (xs.set n v)))
   | none=>.bad
  | none=>.bad
 | _,_=>.bad).wp N T:=by
 unfold j_;rw[bW];congr 1;funext a s1;rw[bW]
 try rfl
end Mm
namespace Ro
open PySem L2 Mm
theorem Ly:¬ ((.inr "cells":Key)=.inr "turn"):=λ z=>RY (Sum.inr.inj z)
def rS (c:Nat)(t:Int):List (Key × AV):=[(.inr "cells",.ref c),(.inr "turn",.int t)]
theorem BZ (c:Nat)(t:Int):aP (rS c t) (.inr "cells")=some (.ref c):=if_pos rfl
theorem Fj (c:Nat)(t:Int):aP (rS c t) (.inr "turn")=some (.int t):=by
 unfold rS aP
 rw[if_neg Ly]
 exact if_pos rfl
theorem Jl (c:Nat)(t u:Int):eI (rS c t) (.inr "turn") (.int u)=rS c u:=by
 unfold eI rS
 rw[if_pos (by simp)]
 simp only[List.map_cons,List.map_nil,if_neg Ly,if_true]
structure Dr (c d n:Nat)(s:S):Prop where
 ex:∃ (t:Int) (cells:List Int),s[d]? = some (.dK (rS c t))/\s[c]? = some (.lst (cells.map AV.int))/\cells≠[]/\0<=t/\t<=n
 cl:Cl s
structure Kp (c d:Nat)(s s':S):Prop where
 len:s'.length=s.length
 get:∀ i,i≠c->i≠d->s'[i]? = s[i]?
theorem Kp.trans {c d:Nat}{s s' vi:S}(h:Kp c d s s')(k:Kp c d s' vi):Kp c d s vi:=⟨k.len.trans h.len,λ i h1 h2=>(k.get i h1 h2).trans (h.get i h1 h2)⟩
theorem Dr.mono {c d n m:Nat}{s:S}(h:Dr c d n s)(k:n<=m):Dr c d m s:=by
 obtain⟨⟨t,cells,h1,h2,h3,h4,h5⟩,cl⟩:=h
 exact⟨⟨t,cells,h1,h2,h3,h4,by omega⟩,cl⟩
theorem Dr.ne {c d n:Nat}{s:S}(h:Dr c d n s):c≠d:=by
 obtain⟨⟨t,cells,h1,h2,_⟩,_⟩:=h
 rintro rfl
 rw[h1]at h2;cases h2
theorem Dr.EE {c d n:Nat}{s:S}(h:Dr c d n s):c < s.length:=by
 obtain⟨⟨t,cells,h1,h2,_⟩,_⟩:=h
 exact(List.getElem?_eq_some_iff.mp h2).1
theorem Dr.ED {c d n:Nat}{s:S}(h:Dr c d n s):d < s.length:=by
 obtain⟨⟨t,cells,h1,h2,_⟩,_⟩:=h
 exact(List.getElem?_eq_some_iff.mp h1).1
theorem Dr.app {c d n:Nat}{s e:S}(h:Dr c d n s)(k:Cl (s++e)):Dr c d n (s++e):=by
 have l1:=h.EE
 have l2:=h.ED
 obtain⟨⟨t,cells,h1,h2,h3⟩,cl⟩:=h
 exact⟨⟨t,cells,by rw[List.getElem?_append_left l2];exact h1,by rw[List.getElem?_append_left l1];exact h2,h3⟩,k⟩
theorem Dr.set {c d n i:Nat}{s:S}{o:AO}(h:Dr c d n s)(h1:i≠c)(h2:i≠d)(k:o.low s.length=true):Dr c d n (s.set i o):=by
 obtain⟨⟨t,cells,k1,k2,k3⟩,cl⟩:=h
 exact⟨⟨t,cells,by rw[List.getElem?_set_ne h2];exact k1,by rw[List.getElem?_set_ne h1];exact k2,k3⟩,cl.set k⟩
theorem low_ints (b:Nat):∀ l:List Int,aG b (l.map AV.int)=true
 | []=>by simp[aG]
 | i :: r=>by simp only[List.map_cons,aG,low_ints b r];simp[AV.low]
theorem Fe {x m:Int}(h:0 < m)(k:m<=2147483648):eJ 31 (x.fmod m):=by
 have h1:=Int.fmod_nonneg_of_pos x h
 have h2:=Int.fmod_lt_of_pos x h
 exact rP (by omega) (by omega)
theorem oF {n:Nat}{i:Int}(h:0<=i)(k:i < 2 ^ n):eJ n i:=rP (by omega) k
theorem gF {c d n:Nat}{s:S}(D:Dr c d n s)(hn:n<=1000000000){k:Int}(hk:0 < k)(fk:eJ 9000 k) :
  (aO [.ref d,.int k] s).wp λ v s'=>∃ r,v=.int r/\0<=r/\r < k/\Dr c d (n+1) s'/\Kp c d s s':=by
 have lc:=D.EE
 have ld:=D.ED
 have ne:=D.ne
 obtain⟨⟨t,cells,h1,h2,h3,h4,h5⟩,cl⟩:=D
 have e0:gC s d=some (rS c t):=by unfold gC;rw[h1]
 have g1:bc (.ref d) (.str "turn") s=.ok (.int t) s:=by
  show(need (gC s d) λ kvs=>need (f7 (.str "turn")) λ k=>need (aP kvs k) λ v=>R.ok v s)=_
  rw[e0,aj]
  rw[show f7 (.str "turn")=some (.inr "turn") from rfl,aj,Fj];rfl
 let s1:=s.set d (.dK (rS c (t+1)))
 have p1:∀ env,putD (.int (t+1)) (.ref d) (.str "turn") env s=.nx env s1:=λ env=>by
  show(match gC s d,f7 (.str "turn") with
   | some kvs,some k=>if kvs.length < sizeLine then RS.nx env (s.set d (.dK (eI kvs k (.int (t+1))))) else .bad
   | _,_=>.bad)=_
  rw[e0]
  show(if (rS c t).length < sizeLine then RS.nx env (s.set d (.dK (eI (rS c t) (.inr "turn") (.int (t+1))))) else .bad)=_
  rw[if_pos (bZ (by show(2:Nat)<=1000;omega)),Jl]
 have e1:s1[d]? = some (.dK (rS c (t+1))):=List.getElem?_set_self ld
 have e2:s1[c]? = some (.lst (cells.map AV.int)):=by show(s.set d _)[c]? = _;rw[List.getElem?_set_ne (Ne.symm ne)];exact h2
 have l1:ak s1 c=some (cells.map AV.int):=cC e2
 have Gp:Cl s1:=cl.set (by simp[AO.low,rS,aG,AV.low,lc])
 have Nu:Kp c d s s1:=⟨List.length_set,λ i _ hi=>List.getElem?_set_ne (Ne.symm hi)⟩
 have g2:bc (.ref d) (.str "cells") s1=.ok (.ref c) s1:=by
  show(need (gC s1 d) λ kvs=>need (f7 (.str "cells")) λ k=>need (aP kvs k) λ v=>R.ok v s1)=_
  rw[show gC s1 d=some (rS c (t+1)) by unfold gC;rw[e1],aj]
  rw[show f7 (.str "cells")=some (.inr "cells") from rfl,aj,BZ];rfl
 have LR:0 < cells.length:=List.length_pos_iff.mpr h3
 have lenE:hX [.ref c] s1=.ok (.int cells.length) s1:=by
  show(need (ak s1 c) λ xs=>R.ok (AV.int xs.length) s1)=_
  rw[l1,aj,List.length_map]
 have vm:(0:Int) < cells.length:=by omega
 have j0:=Int.fmod_nonneg_of_pos (t+1) vm
 have j1:=Int.fmod_lt_of_pos (t+1) vm
 obtain⟨j,ej⟩:∃ j:Nat,(t+1).fmod cells.length=j:=⟨((t+1).fmod cells.length).toNat,by omega⟩
 have hj:j < cells.length:=by omega
 have ix:jx (cells.map AV.int) (j:Int)=some (.int cells[j]):=jw (by rw[List.getElem?_map,List.getElem?_eq_getElem hj];rfl)
 have R3:xb (cells.map AV.int).length (j:Int)=some j:=by
  unfold xb
  rw[List.length_map,if_pos (by omega),if_pos (by omega)];rfl
 unfold aO kq
 have gE:bj (.ref c) (.int j) s1=.ok (.int cells[j]) s1:=by
  show(need (ak s1 c) λ xs=>need (jx xs j) λ v=>R.ok v s1)=_
  rw[l1,aj,ix];rfl
 have Pt:(10:Int) ^ (18:Int).toNat=1000000000000000000:=OJ
 have T1:eJ 31 (t+1):=oF (by omega) (by omega)
 simp only[↓WS,↓WE,↓WV,Lq,af,UU,Nat.reduceSub,↓reduceIte,↓aB g1,↓qo (p1 _),↓aB g2,↓aB lenE,ej,↓aB gE,Pt]
 refine⟨by omega,⟨by omega,by omega,by decide⟩,?_⟩
 split
 ·simp only[↓WS,↓WE,↓WV,Lq,af,UU,Nat.reduceSub,↓reduceIte,↓pd,↓zh,↓aB g2,l1,R3]
  refine⟨⟨hk,⟨fk⟩⟩,_,rfl,Int.emod_nonneg _ (by omega),Int.emod_lt_of_pos _ hk,⟨⟨t+1,cells.set j (cells[j] / k),?_,?_,?_,by omega,by omega⟩,?_⟩,?_⟩
  ·rw[List.getElem?_set_ne ne];exact e1
  ·rw[List.getElem?_set_self (by show c < s1.length;rw[Nu.len];exact lc),List.map_set]
  ·intro z
   have:=congrArg List.length z
   rw[List.length_set,List.length_nil]at this;omega
  ·refine Gp.set ?_
   rw[<-List.map_set]
   exact low_ints _ _
  ·exact⟨by rw[List.length_set];exact Nu.len,λ i q1 q2=>by rw[List.getElem?_set_ne (Ne.symm q1)];exact Nu.get i q1 q2⟩
 ·have F1:eJ 31 (cells[j].fmod 2147483629):=Fe (by omega) (by omega)
  have Rb:eJ 13 (7919:Int):=oF (by omega) (by omega)
  have S':eJ 16 (48271:Int):=oF (by omega) (by omega)
  have JQ:eJ 17 (104729:Int):=oF (by omega) (by omega)
  have Ta:eJ 16 (39373:Int):=oF (by omega) (by omega)
  have F2:=T1.mul T1
  have F3:=F2.mul Rb
  have F4:eJ 76 (cells[j].fmod 2147483629+(t+1) * (t+1) * 7919):=eJ.add (n:=75) (F1.mono (by omega)) (F3.mono (by omega))
  have F5:eJ 77 (cells[j].fmod 2147483629+(t+1) * (t+1) * 7919+11):=eJ.add F4 (oF (by omega) (by omega))
  have F6:∀ x:Int,eJ 49 (x.fmod 2147483587+(t+1) * 104729):=λ x=>eJ.add (n:=48) ((Fe (by omega) (by omega)).mono (by omega)) ((T1.mul JQ).mono (by omega))
  have bg:∀ {n:Nat}{i:Int},eJ n i->n<=100->CO i:=λ h k=>we h (by omega)
  refine⟨by decide,⟨bg T1 (by omega),bg T1 (by omega)⟩,⟨bg F2 (by omega),bg Rb (by omega)⟩,⟨bg F5 (by omega),bg S' (by omega)⟩,by decide,⟨bg (Fe (by omega) (by omega)) (by omega),bg (Fe (by omega) (by omega)) (by omega)⟩,by decide,⟨bg T1 (by omega),bg JQ (by omega)⟩,⟨bg (F6 _) (by omega),bg Ta (by omega)⟩,by decide,⟨by decide,A2 (n:=7) (oF (by omega) (by omega)) (by omega)⟩,by omega,_,rfl,Int.fmod_nonneg_of_pos _ hk,Int.fmod_lt_of_pos _ hk,⟨⟨t+1,cells,e1,e2,h3,by omega,by omega⟩,Gp⟩,Nu⟩
theorem BJ {s:S}{n:Nat}:∀ {v:AV},j' v=true->∃ d,toD n s v=some d/\d.dep=0
 | .az,_=>⟨.az,by unfold toD;rfl,by simp[Dt.dep]⟩
 | .bl b,_=>⟨.bl b,by unfold toD;rfl,by simp[Dt.dep]⟩
 | .int b,_=>⟨.int b,by unfold toD;rfl,by simp[Dt.dep]⟩
 | .str b,_=>⟨.str b,by unfold toD;rfl,by simp[Dt.dep]⟩
theorem rM {s:S}{n:Nat}:∀ {l:List AV},l.all j'=true->∃ ds,l.mapM (toD n s)=some ds/\ds.length=l.length/\dh ds=0
 | [],_=>⟨[],rfl,rfl,by simp[dh]⟩
 | v :: r,h=>by
  rw[List.all_cons,Bool.and_eq_true]at h
  obtain⟨d,e1,e2⟩:=BJ (s:=s) (n:=n) h.1
  obtain⟨ds,e3,e4,e5⟩:=rM (s:=s) (n:=n) h.2
  exact⟨d :: ds,by rw[List.mapM_cons,e1,e3];rfl,by simp[e4],by simp[dh,e2,e5]⟩
theorem BV {s:S}{i j:Nat}{xs:List AV}(h1:ak s i=some xs)(h2:ak s j=some [])(hf:xs.all j'=true):BW s (.ref i) (.ref j)=some xs.isEmpty:=by
 obtain⟨ds,e1,e2,e3⟩:=rM (s:=s) (n:=19) hf
 have t1:toD 20 s (.ref i)=some (.lst ds):=by
  simp only[toD,h1,Option.bind_some,e1,Option.map_some]
 have t2:toD 20 s (.ref j)=some (.lst []):=by
  simp only[toD,h2,Option.bind_some,List.mapM_nil];rfl
 unfold BW
 simp only
 rw[t1,t2]
 dsimp only
 rw[if_pos (by omega)]
 congr 1
 cases xs with
 | nil=>cases ds with
  | nil=>simp[g6]
  | cons=>cases e2
 | cons=>cases ds with
  | nil=>cases e2
  | cons=>simp[g6]
theorem rN:∀ l:List Int,(l.map AV.int).all j'=true
 | []=>rfl
 | i :: r=>by rw[List.map_cons,List.all_cons,rN r];rfl
theorem qD {k:Int}(h:0 < k)(l:k < 1048576):eJ 9000 k:=(oF (n:=20) (by omega) (by omega)).mono (by omega)
theorem lX (m:Ev)(env:En)(s:S)(Q:List AV × Gd->S->Prop):(qr (aa m ag) env s).wp Q=(m env s).wp λ v s1=>match v with|.int j=>(-(2 ^ 62)<=j/\j < 2 ^ 62)/\Q (kM 0 j.toNat,[]) s1|_=>False:=by
 unfold qr aa ag
 simp only[wp_bind,nN]
 congr 1
 funext v s1
 cases v<;>first|rfl|exact jA _ _ _
structure Gk (c d:Nat)(s s':S):Prop where
 len:s.length<=s'.length
 get:∀ i,i < s.length->i≠c->i≠d->s'[i]? = s[i]?
theorem Kp.gk {c d:Nat}{s s':S}(h:Kp c d s s'):Gk c d s s':=⟨by rw[h.len];exact Nat.le_refl _,λ i _ h1 h2=>h.get i h1 h2⟩
theorem Gk.app (c d:Nat)(s e:S):Gk c d s (s++e):=⟨by simp,λ i hi _ _=>List.getElem?_append_left hi⟩
theorem Gk.trans {c d:Nat}{s s' vi:S}(h:Gk c d s s')(k:Gk c d s' vi):Gk c d s vi:=⟨Nat.le_trans h.len k.len,λ i hi h1 h2=>(k.get i (Nat.lt_of_lt_of_le hi h.len) h1 h2).trans (h.get i hi h1 h2)⟩
theorem Gk.lst {c d n i:Nat}{s s':S}{xs:List AV}(h:Gk c d s s')(h1:i≠c)(h2:i≠d)(k:ak s i=some xs):ak s' i=some xs:=by
 have e:=aw k
 exact cC ((h.get i (List.getElem?_eq_some_iff.mp e).1 h1 h2).trans e)
theorem Gk.set {c d i:Nat}{s s':S}{o:AO}(h:Gk c d s s')(hi:s.length<=i):Gk c d s (s'.set i o):=⟨by rw[List.length_set];exact h.len,λ j hj h1 h2=>by rw[List.getElem?_set_ne (by omega)];exact h.get j hj h1 h2⟩
theorem Gk.cut {c d n m:Nat}{s s':S}(h:Gk c d s s')(D:Dr c d n s)(D':Dr c d m s'):Dr c d m (s'.take s.length)/\Kp c d s (s'.take s.length)/\(s'.take s.length).all (AO.low s.length)=true:=by
 have lc:=D.EE
 have ld:=D.ED
 have el:(s'.take s.length).length=s.length:=by rw[List.length_take];have:=h.len;omega
 have eg:∀ i,i < s.length->(s'.take s.length)[i]? = s'[i]?:=λ i hi=>List.getElem?_take_of_lt hi
 have cl:=D.cl
 obtain⟨⟨t,cells,h1,h2,h3,h4,h5⟩,S_⟩:=D'
 have all:(s'.take s.length).all (AO.low s.length)=true:=by
  rw[List.all_eq_true]
  intro o ho
  obtain⟨i,hi,e⟩:=List.mem_iff_getElem.mp ho
  rw[el]at hi
  have e':(s'.take s.length)[i]? = some o:=by rw[List.getElem?_eq_getElem (by rw[el];exact hi)];rw[e]
  rw[eg i hi]at e'
  by_cases c1:i=c
  ·subst c1;rw[h2]at e';cases e';exact low_ints _ _
  by_cases c2:i=d
  ·subst c2;rw[h1]at e';cases e';simp[AO.low,rS,aG,AV.low,lc]
  rw[h.get i hi c1 c2]at e'
  have:=List.all_eq_true.mp (show s.all (AO.low s.length)=true from cl) o (List.mem_of_getElem? e')
  exact this
 refine⟨⟨⟨t,cells,by rw[eg d ld];exact h1,by rw[eg c lc];exact h2,h3,h4,h5⟩,?_⟩,⟨el,λ i c1 c2=>?_⟩,all⟩
 ·unfold Cl;rw[el];exact all
 ·by_cases hi:i < s.length
  ·rw[eg i hi];exact h.get i hi c1 c2
  ·rw[List.getElem?_eq_none (by rw[el];omega),List.getElem?_eq_none (by omega)]
theorem xa {s:S}{i:Nat}{xs:List AV}{j:Int}(h:ak s i=some xs)(h0:0<=j)(h1:j < xs.length):∃ v,v∈xs/\bj (.ref i) (.int j) s=.ok v s:=by
 obtain⟨n,rfl⟩:∃ n:Nat,j=n:=⟨j.toNat,by omega⟩
 have hn:n < xs.length:=by omega
 refine⟨xs[n],List.getElem_mem hn,?_⟩
 show(need (ak s i) λ xs=>need (jx xs n) λ v=>R.ok v s)=_
 rw[h,aj,jw (List.getElem?_eq_getElem hn)];rfl
theorem Rz {j b:Int}(h1:0<=j)(h2:j<=60)(h3:0 < b)(h4:b<=60):Sz 6 (Rat.divInt j b):=Mh (by omega) (oF (by omega) (by omega)) (oF (by omega) (by omega))
theorem B2 {j b:Int}(h1:0<=j)(h3:0 < b):0<=Rat.divInt j b:=(Rat.divInt_nonneg_iff_of_pos_right h3).mpr h1
theorem div_add {a c b:Int}(h:b≠0):Rat.divInt a b+Rat.divInt c b=Rat.divInt (a+c) b:=by
 rw[Rat.divInt_add_divInt _ _ h h,<-Int.add_mul,Rat.divInt_mul_right h]
theorem Fl {j b:Int}(h1:j<=b)(h3:0 < b):Rat.divInt j b<=1:=by
 have:0<=Rat.divInt (b - j) b:=B2 (by omega) h3
 have e:Rat.divInt (b - j) b+Rat.divInt j b=1:=by
  rw[div_add (by omega),show b - j+j=b by omega,Rat.divInt_self' (by omega)]
 grind
theorem Bg {a b:Int}(s:S)(h1:0<=a)(h2:a<=1000)(h3:0 < b)(h4:b<=1000):cz [.int a,.int b] s=.ok (fq (Rat.divInt a b)) s:=yj s (by omega) ((oF (n:=20) (by omega) (by omega)).mono (by omega)) ((oF (n:=20) (by omega) (by omega)).mono (by omega))
theorem wL {c d n:Nat}{s:S}(D:Dr c d n s)(hn:n<=900001000):(du [.ref d] s).wp λ v s'=>∃ q,v=fq q/\0<=q/\q<=1/\Sz 6 q/\Dr c d (n+3) s'/\Kp c d s s':=by
 unfold du kr
 walk_at "w"
 refine(gF D (by omega) (by omega) (qD (by omega) (by omega))).mono ?_
 rintro _ s1 ⟨r,rfl,h0,h1,D1,K1⟩
 walk_at "w"
 have D1':=D1.app (e:=[.lst [.int 2,.int 3,.int 4,.int 5,.int 10,.int (1+r)]]) (D1.cl.add (by simp[AO.low,aG,AV.low]))
 refine(gF D1' (by omega) (by omega) (qD (by omega) (by omega))).mono ?_
 rintro _ s2 ⟨j,rfl,j0,j1,D2,K2⟩
 obtain⟨v,hv,ev⟩:=xa (s:=s2) (i:=s1.length) (j:=j) (K2.gk.lst (n:=0) (by have:=D1.EE;omega) (by have:=D1.ED;omega) (aM s1 _)) j0 j1
 obtain⟨b,rfl,b0,b1⟩:∃ b,v=.int b/\1<=b/\b<=60:=by
  simp only[List.mem_cons,List.not_mem_nil,or_false]at hv
  rcases hv with rfl|rfl|rfl|rfl|rfl|rfl<;>exact⟨_,rfl,by omega,by omega⟩
 have G:=(K1.gk.trans (Gk.app c d s1 _)).trans K2.gk
 obtain⟨D3,K3,al⟩:=G.cut D D2
 simp only[↓WS,↓WE,↓WV,Lq,af,UU,Nat.reduceSub,↓reduceIte,↓aB ev,al,show AV.low s.length (.int b)=true by simp[AV.low]]
 refine(gF D3 (by omega) (by omega) (qD (by omega) (by omega))).mono ?_
 rintro _ s3 ⟨i,rfl,i0,i1,D4,K4⟩
 simp only[↓WS,↓WE,↓WV,Lq,af,UU,Nat.reduceSub,↓reduceIte,↓aB (Bg (a:=1+i) (b:=b) _ (by omega) (by omega) (by omega) (by omega))]
 exact⟨_,rfl,B2 (by omega) (by omega),Fl (by omega) (by omega),Rz (by omega) (by omega) (by omega) (by omega),D4,K3.trans K4⟩
theorem append_at {s:S}{i:Nat}{xs:List AV}{v:AV}(h:ak s i=some xs)(hl:xs.length < sizeLine):bP (.ref i) [v] s=.ok .az (s.set i (.lst (xs++[v]))):=by
 unfold bP
 simp only[h,aj,if_pos hl]
theorem j7 {s:S}{i:Nat}{xs:List AV}(h:ak s i=some xs):(iY "list" (.ref i) s).isSome=true:=by
 show((ak s i).map λ _=>()).isSome=true
 rw[h];rfl
theorem my {s:S}{i:Nat}{xs ys:List AV}(h:ak s i=some xs):ak (s.set i (.lst ys)) i=some ys:=by
 refine cC (List.getElem?_set_self ?_)
 exact(List.getElem?_eq_some_iff.mp (aw h)).1
def hV:Str:="b aa zebra c quartzes ab m knows d mm likes z ba abcdefgh y zz e x f g hh jj kk pave"
open PySem.Builtin.Str in
def sO:List Str:=partsBetween hV (occurrences hV " " 0 hV.length (hV.length+1)) (" ":Str).length
theorem AE:sO.length=24:=by decide +kernel
open PySem.Builtin.Str in
theorem D8:(decide (hV.length < (" ":Str).length) || decide (PySem.Builtin.Str.strKind hV < PySem.Builtin.Str.strKind (" ":Str)))=false/\((" ":Str).length == 0)=false/\(occurrences hV " " 0 hV.length (hV.length+1)).isEmpty=false/\hV.length<=1000/\(partsBetween hV (occurrences hV " " 0 hV.length (hV.length+1)) (" ":Str).length).length<=1000:=by decide +kernel
theorem C9 (s:S):l9 (.str "b aa zebra c quartzes ab m knows d mm likes z ba abcdefgh y zz e x f g hh jj kk pave") [.str " "] s=.ok (sO.map AV.str) s:=if_pos D8
theorem cg (b:Nat):∀ l:List Str,aG b (l.map AV.str)=true
 | []=>by simp[aG]
 | i :: r=>by simp only[List.map_cons,aG,cg b r];simp[AV.low]
theorem nt {s:S}{i:Nat}{xs:List AV}(h:ak s i=some xs):hX [.ref i] s=.ok (.int xs.length) s:=by
 show(need (ak s i) λ xs=>R.ok (AV.int xs.length) s)=_
 rw[h];rfl
theorem BS {α β:Type}(f:α->β):∀ (l:List α) (m:Nat),(l.map f).eraseIdx m=(l.eraseIdx m).map f
 | [],_=>rfl
 | a :: r,0=>rfl
 | a :: r,m+1=>by show f a :: (r.map f).eraseIdx m=f a :: (r.eraseIdx m).map f;rw[BS f r m]
theorem TG:(fu "int" "list"=false)/\(fu "int" "tuple"=false)/\(fu "int" "str"=false)/\(fu "int" "int"=true)/\(fu "int" "bool"=false)/\
  (fu "str" "list"=false)/\(fu "str" "tuple"=false)/\(fu "str" "str"=true)/\
  (fu "tuple" "list"=false)/\(fu "tuple" "tuple"=true)/\(fu "list" "list"=true)/\(fu "list" "tuple"=false):=by
 refine⟨?_,?_,?_,?_,?_,?_,?_,?_,?_,?_,?_,?_⟩<;>decide +kernel
theorem EO (n:String)(i:Int)(s:S)(Q:AV->S->Prop):(dH n (.int i) s).wp Q=Q (.bl (fu "int" n)) s:=rfl
theorem EN (n:String)(i:Str)(s:S)(Q:AV->S->Prop):(dH n (.str i) s).wp Q=Q (.bl (fu "str" n)) s:=rfl
theorem EM (n:String)(i:List AV)(s:S)(Q:AV->S->Prop):(dH n (.tup i) s).wp Q=Q (.bl (fu "tuple" n)) s:=rfl
theorem sX {n:String}{i:Nat}{xs:List AV}{s:S}(h:ak s i=some xs):dH n (.ref i) s=.ok (.bl (fu "list" n)) s:=by
 have e:=aw h
 unfold dH
 rw[show wB (.ref i) s=some "list" by simp only[wB,e]];rfl
theorem fj (b:Bool)(s:S):truth (.bl b) s=some b:=rfl
theorem FT (a b:Bool)(s:S)(Q:AV->S->Prop):(ou (.bl a) (.bl b) s).wp Q=Q (.bl (!decide (a=b))) s:=rfl
theorem wy (a b:Ev)(env:En)(s:S)(Q:List AV × Gd->S->Prop):(zD a b env s).wp Q=(a env s).wp λ v s1=>(b env s1).wp λ w s2=>(need (xM v w s2) λ r=>.ok r s2).wp Q:=by
 unfold zD;rw[wp_bind];congr 1;funext v s1;rw[wp_bind]
theorem same_int (n:Nat)(i:Int)(s:S):ar (n+1) [.int i,.int i] s=.ok (.bl true) s:=by
 apply R.wp.eq
 unfold ar dw
 simp only[↓WS,↓WE,↓WV,Lq,af,UU,Nat.reduceSub,↓reduceIte,h_,↓EO,TG,fj,Bool.not_false,decide_true]
theorem same_str (n:Nat)(i:Str)(s:S):ar (n+1) [.str i,.str i] s=.ok (.bl true) s:=by
 apply R.wp.eq
 unfold ar dw
 simp only[↓WS,↓WE,↓WV,Lq,af,UU,Nat.reduceSub,↓reduceIte,h_,↓EN,TG,fj,Bool.not_false,decide_true]
theorem tV:∀ n:Nat,qF (List.replicate n (.bl true))=some (List.replicate n true)
 | 0=>rfl
 | n+1=>by rw[List.replicate_succ];show(qF (List.replicate n (.bl true))).map (true :: ·)=_;rw[tV n];rfl
theorem xE (m:Nat):(List.replicate m true).all id=true:=by
 rw[List.all_eq_true];intro b hb;rw[(List.mem_replicate.mp hb).2];rfl
theorem EG (xs:List AV)(s:S):hX [.tup xs] s=.ok (.int xs.length) s:=rfl
end Ro
namespace Mm
open PySem L2
theorem Ni (c:Nat)(m:Str)(n:Nat)(F:List AV->S->R AV)(mo:Ev)(r:dY)(env:En)(s:S)(Q:AV->S->Prop):(aX c m n F mo r env s).wp Q=(mo env s).wp λ x s1=>match nB c x s1 with
 | some p=>p.2.lookup m=none/\(r env s1).wp λ vs s2=>vs.length=n/\(F (x :: vs) s2).wp Q
 | none=>False:=by
 unfold aX
 rw[wp_bind]
 congr 1
 funext x s1
 cases nB c x s1 with
 | none=>rfl
 | some p=>
  rw[lY,jA,wp_bind]
  congr 1
  congr 1
  funext vs s2
  rw[jA]
theorem CW (c:Nat)(f:Str)(mo mv:Ev)(env:En)(s:S)(N:En->S->Prop)(T:AV->S->Prop):(gW c f mo mv env s).wp N T=(mv env s).wp λ y s1=>(mo env s1).wp λ x s2=>match nB c x s2 with
 | some p=>p.2.length < 1000/\N env (s2.set p.1 (.ins c (qX f y p.2)))
 | none=>False:=by
 unfold gW
 rw[bW]
 congr 1
 funext y s1
 rw[bW]
 congr 1
 funext x s2
 cases nB c x s2 with
 | none=>rfl
 | some p=>exact zg _ _ _ _
theorem xN {n i:Nat}{sub:Nat->Bool}{b h:Ms}{env e:En}{s s1:S}(hb:b env s=.nx e s1)(N:En->S->Prop)(T:AV->S->Prop):(mX n i sub b h env s).wp N T=N e s1:=by
 unfold mX;rw[hb];rfl
theorem CV (i:Nat)(r:RS)(N:En->S->Prop)(T:AV->S->Prop):(Ga i r).wp N T=r.wp (λ e s=>N (e.set i none) s) T:=by cases r<;>rfl
theorem xO {n i:Nat}{sub:Nat->Bool}{b h:Ms}{env:En}{s s1:S}{c:AX}(hb:b env s=.ex c s1)(hs:sub c.cls=true)(N:En->S->Prop)(T:AV->S->Prop):(mX n i sub b h env s).wp N T=(h ((List.replicate n none).set i (some (.ref s1.length))) (s1++[.exc c.cls])).wp (λ e s=>N (e.set i none) s) T:=by
 unfold mX;rw[hb];dsimp only;rw[if_pos hs,CV]
theorem kH {c i:Nat}{s:S}{fs:List (Str × AV)}(h:s[i]? = some (.ins c fs)):nB c (.ref i) s=some (i,fs):=by
 unfold nB;dsimp only;rw[h];dsimp only;rw[if_pos rfl]
theorem eU {c i:Nat}{s:S}{fs:List (Str × AV)}{f:Str}{v:AV}(h:s[i]? = some (.ins c fs)) (l:fs.lookup f=some v):cY c f (.ref i) s=.ok v s:=by
 unfold cY;rw[kH h];dsimp only[need];rw[l]
structure At (B:Nat)(m:List AO)(s:S):Prop where
 get:∀ i,i < m.length->s[B+i]? = m[i]?
theorem At.at {B:Nat}{m:List AO}{s:S}(h:At B m s){i:Nat}{o:AO}(e:m[i]? = some o):s[B+i]? = some o:=by
 rw[h.get i (List.getElem?_eq_some_iff.mp e).1];exact e
theorem At.len {B:Nat}{m:List AO}{s:S}(h:At B m s)(k:0 < m.length):B+m.length<=s.length:=by
 have e:=h.get (m.length - 1) (by omega)
 rw[List.getElem?_eq_getElem (by omega:m.length - 1 < m.length)]at e
 have:=(List.getElem?_eq_some_iff.mp e).1
 omega
theorem At.app {B:Nat}{m:List AO}{s:S}(h:At B m s)(e:S):At B m (s++e):=⟨λ i hi=>by
 have q:=h.get i hi
 rw[List.getElem?_eq_getElem hi]at q ⊢
 rw[List.getElem?_append_left (List.getElem?_eq_some_iff.mp q).1];exact q⟩
theorem At.new (s e:S):At s.length e (s++e):=⟨λ i hi=>by rw[List.getElem?_append_right (by omega)];congr 1;omega⟩
theorem At.set {B:Nat}{m:List AO}{s:S}(h:At B m s)(i:Nat)(o:AO):At B (m.set i o) (s.set (B+i) o):=⟨λ j hj=>by
 rw[List.length_set]at hj
 by_cases e:i=j
 ·subst e
  have q:=h.get i hj
  rw[List.getElem?_eq_getElem hj]at q
  rw[List.getElem?_set_self (List.getElem?_eq_some_iff.mp q).1,List.getElem?_set_self hj]
 ·rw[List.getElem?_set_ne (by omega),List.getElem?_set_ne e];exact h.get j hj⟩
theorem At.keep {B:Nat}{m:List AO}{s s':S}(h:At B m s)(k:∀ i,B<=i->i < B+m.length->s'[i]? = s[i]?):At B m s':=⟨λ i hi=>by rw[k _ (by omega) (by omega)];exact h.get i hi⟩
mutual
def Rp (b:Nat)(s:S):Dt->AV->Prop
 | .az,v=>v=.az
 | .bl _,_=>False
 | .int i,v=>v=.int i
 | .str x,v=>v=.str x
 | .tup l,v=>∃ xs,v=.tup xs/\l.length<=1000/\cH b s l xs
 | .lst l,v=>∃ i xs,v=.ref i/\b<=i/\ak s i=some xs/\l.length<=1000/\cH b s l xs
def cH (b:Nat)(s:S):List Dt->List AV->Prop
 | [],xs=>xs=[]
 | d :: l,xs=>∃ x r,xs=x :: r/\Rp b s d x/\cH b s l r
end
mutual
theorem Rp.mono {b:Nat}{s s':S}(k:∀ i xs,ak s i=some xs->ak s' i=some xs):∀ {d:Dt}{v:AV},Rp b s d v->Rp b s' d v
 | .az,_,h=>by unfold Rp at h ⊢;exact h
 | .bl _,_,h=>by unfold Rp at h;exact h.elim
 | .int _,_,h=>by unfold Rp at h ⊢;exact h
 | .str _,_,h=>by unfold Rp at h ⊢;exact h
 | .tup l,_,h=>by
  unfold Rp at h ⊢
  obtain⟨xs,e,hl,h⟩:=h
  exact⟨xs,e,hl,cH.mono k h⟩
 | .lst l,_,h=>by
  unfold Rp at h ⊢
  obtain⟨i,xs,e,hb,h1,hl,h⟩:=h
  exact⟨i,xs,e,hb,k i xs h1,hl,cH.mono k h⟩
theorem cH.mono {b:Nat}{s s':S}(k:∀ i xs,ak s i=some xs->ak s' i=some xs):∀ {l:List Dt}{xs:List AV},cH b s l xs->cH b s' l xs
 | [],_,h=>by unfold cH at h ⊢;exact h
 | _ :: _,_,h=>by
  unfold cH at h ⊢
  obtain⟨x,r,e,h1,h2⟩:=h
  exact⟨x,r,e,Rp.mono k h1,cH.mono k h2⟩
end
theorem Rp.app {b:Nat}{s:S}{d:Dt}{v:AV}(h:Rp b s d v)(e:S):Rp b (s++e) d v:=h.mono λ _ _ q=>aq q
theorem cH.app {b:Nat}{s:S}{l:List Dt}{xs:List AV}(h:cH b s l xs)(e:S):cH b (s++e) l xs:=h.mono λ _ _ q=>aq q
theorem cH.nil {b:Nat}{s:S}:cH b s [] []:=by unfold cH;rfl
theorem cH.cons {b:Nat}{s:S}{d:Dt}{v:AV}{l:List Dt}{xs:List AV}(h:Rp b s d v)(k:cH b s l xs):cH b s (d :: l) (v :: xs):=by unfold cH;exact⟨v,xs,rfl,h,k⟩
theorem cH.length {b:Nat}{s:S}:∀ {l:List Dt}{xs:List AV},cH b s l xs->l.length=xs.length
 | [],_,h=>by unfold cH at h;subst h;rfl
 | _ :: _,_,h=>by
  unfold cH at h
  obtain⟨x,r,rfl,_,h2⟩:=h
  simp[cH.length h2]
theorem sD {b:Nat}(s:S)(i:Int):Rp b s (.int i) (.int i):=by unfold Rp;rfl
theorem zL {b:Nat}(s:S)(i:Str):Rp b s (.str i) (.str i):=by unfold Rp;rfl
theorem zM {b:Nat}(s:S):Rp b s .az .az:=by unfold Rp;rfl
theorem vB {b:Nat}{s:S}{l:List Dt}{xs:List AV}(hl:l.length<=1000)(h:cH b s l xs):Rp b s (.tup l) (.tup xs):=by unfold Rp;exact⟨xs,rfl,hl,h⟩
theorem lr {b:Nat}{s:S}{i:Nat}{l:List Dt}{xs:List AV}(e:ak s i=some xs)(hb:b<=i)(hl:l.length<=1000)(h:cH b s l xs):Rp b s (.lst l) (.ref i):=by unfold Rp;exact⟨i,xs,rfl,hb,e,hl,h⟩
theorem cH.map {b:Nat}{α:Type}{s:S}{f:α->Dt}{g:α->AV}:∀ {l:List α},(∀ a∈l,Rp b s (f a) (g a))->cH b s (l.map f) (l.map g)
 | [],_=>.nil
 | a :: l,h=>.cons (h a (.head _)) (cH.map λ b hb=>h b (.tail _ hb))
end Mm
namespace Ro
open PySem L2 Mm
theorem pC {n:Nat}{xs ys:List AV}{gs:Gd}{s:S}(hg:tm gs s)(h:∀ p∈xs.zip ys,ar n [p.1,p.2] s=.ok (.bl true) s) (Q:List AV->S->Prop)(k:∀ m,Q (List.replicate m (.bl true)) s) :
  (bY (gT 2 (aT (gN 0) (aT (gN 1) ie))) js (aD 2 (ar n) (aa (mv 0) (aa (mv 1) ag))) gs (o6 xs ys) [none,none] s []).wp Q:=by
 unfold o6
 refine kL (λ zs acc env st=>st=s/\∃ r x y m,(∀ p∈r,p∈xs.zip ys)/\zs=(r.map λ p=>AV.tup [p.1,p.2])/\env=[x,y]/\acc=List.replicate m (.bl true)) ?_ ?_ ?_ _ _ _ _ ⟨rfl,xs.zip ys,none,none,0,λ _ h=>h,rfl,rfl,rfl⟩
 ·rintro _ _ _ st ⟨rfl,_⟩;exact hg
 ·rintro acc env st ⟨rfl,r,x,y,m,_,e,rfl,rfl⟩;exact k m
 ·rintro v r acc env st ⟨rfl,r',x,y,m,hr,e,rfl,rfl⟩
  cases r' with
  | nil=>cases e
  | cons p r'=>
   cases e
   simp only[↓WS,↓WE,↓WV,Lq,af,UU,Nat.reduceSub,↓reduceIte,↓aB (h p (hr p (.head _)))]
   exact⟨r',_,_,m+1,λ x hx=>hr x (.tail _ hx),rfl,rfl,by rw[List.replicate_succ']⟩
theorem ud {xs ys:List AV}(h:xs.length=ys.length):(o6 xs ys).length=xs.length:=by unfold o6;simp[h]
theorem x_ {n:Nat}{xs ys:List AV}{s:S}(hl:xs.length<=sizeLine)(he:xs.length=ys.length)(h:∀ p∈xs.zip ys,ar n [p.1,p.2] s=.ok (.bl true) s):ar (n+1) [.tup xs,.tup ys] s=.ok (.bl true) s:=by
 apply R.wp.eq
 unfold ar dw
 simp only[↓WS,↓WE,↓WV,Lq,af,UU,Nat.reduceSub,↓reduceIte,h_,↓EM,TG,fj,Bool.not_false,decide_true,↓FT,Bool.not_true,↓aB (EG _ _),↓wy,xM,qu,he]
 refine⟨?_,?_⟩
 ·rw[ud he];exact hl
 refine pC (by intro p hp;cases hp) h _ λ m=>?_
 unfold zQ
 rw[tV]
 simp only[↓WS,↓WE,↓WV,Lq,af,UU,Nat.reduceSub,↓reduceIte,xE]
theorem ya {n i j:Nat}{xs ys:List AV}{s:S}(hl:xs.length<=sizeLine)(he:xs.length=ys.length)(h1:ak s i=some xs)(h2:ak s j=some ys)(h:∀ p∈xs.zip ys,ar n [p.1,p.2] s=.ok (.bl true) s):ar (n+1) [.ref i,.ref j] s=.ok (.bl true) s:=by
 apply R.wp.eq
 unfold ar dw
 simp only[↓WS,↓WE,↓WV,Lq,af,UU,Nat.reduceSub,↓reduceIte,h_,↓aB (sX h1),↓aB (sX h2),TG,fj,Bool.not_false,decide_true,↓FT,Bool.not_true,↓aB (nt h1),↓aB (nt h2),↓wy,xM,qu,h1,h2,Option.map_some,he]
 refine⟨?_,?_⟩
 ·rw[ud he];exact hl
 refine pC ?_ h _ λ m=>?_
 ·intro p hp
  simp only[List.cons_append,List.nil_append,List.mem_cons,List.not_mem_nil,or_false]at hp
  rcases hp with rfl|rfl
  ·exact h1
  ·exact h2
 unfold zQ
 rw[tV]
 simp only[↓WS,↓WE,↓WV,Lq,af,UU,Nat.reduceSub,↓reduceIte,xE]
theorem zH (n:Nat)(s:S):ar (n+1) [.az,.az] s=.ok (.bl true) s:=by
 apply R.wp.eq
 unfold ar dw
 simp only[↓WS,↓WE,↓WV,Lq,af,UU,Nat.reduceSub,↓reduceIte,h_]
mutual
theorem wG {b:Nat}{s:S}:∀ {d:Dt}{v w:AV}{n:Nat},Rp b s d v->Rp b s d w->d.dep < n->ar n [v,w] s=.ok (.bl true) s
 | _,_,_,0,_,_,h=>absurd h (Nat.not_lt_zero _)
 | .az,_,_,n+1,h,k,_=>by unfold Rp at h k;subst h k;exact zH n s
 | .bl _,_,_,n+1,h,k,_=>by unfold Rp at h;exact h.elim
 | .int _,_,_,n+1,h,k,_=>by unfold Rp at h k;subst h k;exact same_int n _ s
 | .str _,_,_,n+1,h,k,_=>by unfold Rp at h k;subst h k;exact same_str n _ s
 | .tup l,_,_,n+1,h,k,hd=>by
  unfold Rp at h k
  obtain⟨xs,rfl,hl,h⟩:=h
  obtain⟨ys,rfl,_,k⟩:=k
  have l1:=h.length
  have l2:=k.length
  have hd:dh l+1 < n+1:=by simpa[Dt.dep]using hd
  exact x_ (xT (by omega)) (by omega) (pB h k (by omega))
 | .lst l,_,_,n+1,h,k,hd=>by
  unfold Rp at h k
  obtain⟨i,xs,rfl,_,h1,hl,h⟩:=h
  obtain⟨j,ys,rfl,_,k1,_,k⟩:=k
  have l1:=h.length
  have l2:=k.length
  have hd:dh l+1 < n+1:=by simpa[Dt.dep]using hd
  exact ya (xT (by omega)) (by omega) h1 k1 (pB h k (by omega))
theorem pB {b:Nat}{s:S}:∀ {l:List Dt}{xs ys:List AV}{n:Nat},cH b s l xs->cH b s l ys->dh l < n->∀ p∈xs.zip ys,ar n [p.1,p.2] s=.ok (.bl true) s
 | [],_,_,n,h,k,_=>by
  unfold cH at h
  subst h
  intro p hp;simp at hp
 | d :: l,_,_,n,h,k,hd=>by
  unfold cH at h k
  obtain⟨x,r,rfl,h1,h2⟩:=h
  obtain⟨y,t,rfl,k1,k2⟩:=k
  have hd:max d.dep (dh l) < n:=by simpa[dh]using hd
  intro p hp
  rw[List.zip_cons_cons]at hp
  rcases List.mem_cons.mp hp with rfl|hp
  ·exact wG h1 k1 (by omega)
  ·exact pB h2 k2 (by omega) p hp
end
def kT {α:Type}(f:α->Str)(g:α->AV)(l:List α):List (Key × AV):=l.map λ a=>(.inr (f a),g a)
theorem zp {κ:Type} [DecidableEq κ] (k:κ)(v:AV)(j:κ):∀ l:List (κ × AV),aP (eI l k v) j=if k=j then some v else aP l j:=by
 have app:∀ l:List (κ × AV),aP (l++[(k,v)]) j=match aP l j with|some w=>some w|none=>if k=j then some v else none:=by
  intro l
  induction l with
  | nil=>rfl
  | cons p r ih=>
   show(if p.1=j then some p.2 else aP (r++[(k,v)]) j)=_
   rw[ih]
   show _=match (if p.1=j then some p.2 else aP r j) with|some w=>some w|none=>if k=j then some v else none
   by_cases h:p.1=j
   ·rw[if_pos h,if_pos h]
   ·rw[if_neg h,if_neg h]
 have no:∀ l:List (κ × AV),(l.any λ kv=>decide (kv.1=k))=false->aP l k=none:=by
  intro l
  induction l with
  | nil=>intro _;rfl
  | cons p r ih=>
   intro h
   rw[List.any_cons,Bool.or_eq_false_iff]at h
   unfold aP
   rw[if_neg (of_decide_eq_false h.1)]
   exact ih h.2
 have mp:∀ l:List (κ × AV),(l.any λ kv=>decide (kv.1=k))=true->aP (l.map λ kv=>if kv.1=k then (kv.1,v) else kv) j=if k=j then some v else aP l j:=by
  intro l
  induction l with
  | nil=>intro h;cases h
  | cons p r ih=>
   intro h
   rw[List.map_cons]
   by_cases hp:p.1=k
   ·rw[if_pos hp]
    show(if p.1=j then some v else aP (r.map _) j)=_
    rw[hp]
    by_cases hj:k=j
    ·rw[if_pos hj,if_pos hj]
    ·rw[if_neg hj,if_neg hj]
     show _=if p.1=j then some p.2 else aP r j
     rw[hp,if_neg hj]
     clear ih h
     induction r with
     | nil=>rfl
     | cons q t ih=>
      rw[List.map_cons]
      by_cases hq:q.1=k
      ·rw[if_pos hq]
       show(if q.1=j then some v else aP (t.map _) j)=if q.1=j then some q.2 else aP t j
       rw[hq,if_neg hj,if_neg hj];exact ih
      ·rw[if_neg hq]
       show(if q.1=j then some q.2 else aP (t.map _) j)=if q.1=j then some q.2 else aP t j
       rw[ih]
   ·rw[if_neg hp]
    rw[List.any_cons,decide_eq_false hp,Bool.false_or]at h
    show(if p.1=j then some p.2 else aP (r.map _) j)=_
    rw[ih h]
    show _=if k=j then some v else if p.1=j then some p.2 else aP r j
    by_cases hj:k=j
    ·rw[if_pos hj,if_pos hj,if_neg (λ z=>hp (z.trans hj.symm))]
    ·rw[if_neg hj,if_neg hj]
 intro l
 unfold eI
 by_cases ha:(l.any λ kv=>decide (kv.1=k))=true
 ·rw[if_pos ha];exact mp l ha
 ·rw[if_neg ha,app]
  have ha:(l.any λ kv=>decide (kv.1=k))=false:=Bool.eq_false_iff.mpr ha
  by_cases hj:k=j
  ·subst hj;rw[no l ha,if_pos rfl]
  ·rw[if_neg hj,if_neg hj]
   cases aP l j<;>rfl
theorem uu {κ:Type} [DecidableEq κ] (k:κ)(v:AV)(l:List (κ × AV)):(eI l k v).length<=l.length+1:=by
 unfold eI;split<;>simp
theorem vo {α:Type}(f:α->Str)(g:α->AV)(x:Str):∀ l:List α,aP (kT f g l) (.inr x)=(l.find? λ a=>decide (f a=x)).map g
 | []=>rfl
 | a :: r=>by
  show(if (Sum.inr (f a):Key)=Sum.inr x then some (g a) else aP (kT f g r) (.inr x))=_
  rw[vo f g x r,List.find?_cons]
  by_cases h:f a=x
  ·rw[if_pos (by rw[h]),decide_eq_true h];rfl
  ·rw[if_neg (λ z=>h (Sum.inr.inj z)),decide_eq_false h]
theorem sh {g:Str->AV}{x:Str}{l:List Str}(h:x∈l):aP (kT id g l) (.inr x)=some (g x):=by
 rw[vo]
 cases e:l.find? λ a=>decide (id a=x) with
 | none=>
  have:=List.find?_eq_none.mp e x h
  simp at this
 | some a=>
  have:=List.find?_some e
  have:a=x:=by simpa using this
  rw[this];rfl
theorem GB {g:Str->AV}{x:Str}{l:List Str}(h:x∉l):aP (kT id g l) (.inr x)=none:=by
 rw[vo]
 have:(l.find? λ a=>decide (id a=x))=none:=List.find?_eq_none.mpr λ a ha=>by
  simp only[id,decide_eq_true_eq]
  intro e;exact h (e ▸ ha)
 rw[this];rfl
theorem si {α:Type}(f:α->Str)(g:α->AV):∀ l:List α,gD (kT f g l)=some (l.map f)
 | []=>rfl
 | a :: r=>by
  show(gD (kT f g r)).map (f a :: ·)=_
  rw[si f g r];rfl
theorem mY {g:Str->AV}{x:Str}{l:List Str}{v:AV}(h:x∉l)(hv:v=g x):eI (kT id g l) (.inr x) v=kT id g (l++[x]):=by
 unfold eI
 have:((kT id g l).any λ kv=>decide (kv.1=Sum.inr x))=false:=by
  rw[List.any_eq_false]
  intro p hp
  obtain⟨a,ha,rfl⟩:=List.mem_map.mp hp
  simp only[id,decide_eq_true_eq]
  intro z;exact h (Sum.inr.inj z ▸ ha)
 rw[this,if_neg (by decide)]
 unfold kT
 rw[List.map_append,hv];rfl
theorem Bj {g g':Str->AV}{l:List Str}(h:∀ x∈l,g x=g' x):kT id g l=kT id g' l:=List.map_congr_left λ a ha=>by show(_,g a)=(_,g' a);rw[h a ha]
theorem vF {g:Str->AV}{x:Str}{l:List Str}{v:AV}(h:x∈l):eI (kT id g l) (.inr x) v=kT id (λ y=>if y=x then v else g y) l:=by
 unfold eI
 have:((kT id g l).any λ kv=>decide (kv.1=Sum.inr x))=true:=by
  rw[List.any_eq_true]
  exact⟨(.inr x,g x),List.mem_map.mpr ⟨x,h,rfl⟩,by simp⟩
 rw[if_pos this]
 unfold kT
 rw[List.map_map]
 refine List.map_congr_left λ a ha=>?_
 show(if (Sum.inr a:Key)=Sum.inr x then ((Sum.inr a:Key),v) else (Sum.inr a,g a))=(Sum.inr a,if a=x then v else g a)
 by_cases e:a=x
 ·rw[if_pos (by rw[e]),if_pos e]
 ·rw[if_neg (λ z=>e (Sum.inr.inj z)),if_neg e]
def kI (a:Int × Int):AV:=.tup [.int a.1,.int a.2]
structure Wl where
 ps:List Str
 kf:Str->Int × Int
 ws:List Str
 kw:List (Key × AV)
 h:Int
def qm (B:Nat)(h:Int):List (Str × AV):=[("keeps",.ref (B+1)),("rows",.ref (B+2)),("hands",.ref (B+3)),("makers",.ref (B+4)),("rates",.ref (B+5)),("half",.int h),("money",.ref (B+6)),("debts",.ref (B+7))]
def qK (B:Nat)(h:Int):List (Key × AV):=[(.inr "people",.ref (B+8)),(.inr "works",.ref (B+9)),(.inr "hands",.ref (B+10)),(.inr "known",.ref (B+11)),(.inr "rates",.ref (B+12)),(.inr "keeps",.ref (B+13)),(.inr "half",.int h),(.inr "money",.ref (B+15)),(.inr "debts",.ref (B+16))]
def mid (B:Nat)(V W:Wl):List AO:=[.ins 9 (qm B V.h),.dK (kT id (λ p=>kI (V.kf p)) V.ps),.dK (kT id (λ _=>.tup []) V.ws),.dK [],.dK [],.dK [],.lst [],.lst [],
 .lst (W.ps.map .str),.dK (kT id (λ _=>.tup []) W.ws),.lst [],.dK [],.lst [],.dK W.kw,.dK (qK B W.h),.lst [],.lst []]
theorem fW (B:Nat)(h:Int):(qm B h).lookup (Str.ofString "keeps")=some (AV.ref (B+1)):=by rfl
theorem kJ (B:Nat)(h:Int):(qm B h).lookup (Str.ofString "rows")=some (AV.ref (B+2)):=by rfl
theorem BO (B:Nat)(h:Int):(qm B h).lookup (Str.ofString "hands")=some (AV.ref (B+3)):=by rfl
theorem yD (B:Nat)(h:Int):(qm B h).lookup (Str.ofString "makers")=some (AV.ref (B+4)):=by rfl
theorem BL (B:Nat)(h:Int):(qm B h).lookup (Str.ofString "rates")=some (AV.ref (B+5)):=by rfl
theorem Fc (B:Nat)(h:Int):(qm B h).lookup (Str.ofString "half")=some (AV.int h):=by rfl
theorem BN (B:Nat)(h:Int):(qm B h).lookup (Str.ofString "money")=some (AV.ref (B+6)):=by rfl
theorem BP (B:Nat)(h:Int):(qm B h).lookup (Str.ofString "debts")=some (AV.ref (B+7)):=by rfl
theorem BM (B:Nat)(h:Int){m:Str}(k:((["keeps","rows","hands","makers","rates","half","money","debts"]:List Str).any λ f=>m == f)=false):(qm B h).lookup m=none:=by
 simp only[List.any_cons,List.any_nil,Bool.or_false,Bool.or_eq_false_iff]at k
 obtain⟨k1,k2,k3,k4,k5,k6,k7,k8⟩:=k
 unfold qm
 simp only[List.lookup_cons,k1,k2,k3,k4,k5,k6,k7,k8,List.lookup_nil]
section
variable {B:Nat}{V W:Wl}{s:S}
theorem fw (h:At B (mid B V W) s):s[B]? = some (.ins 9 (qm B V.h)):=h.at (i:=0) rfl
theorem fX (h:At B (mid B V W) s):gC s (B+1)=some (kT id (λ p=>kI (V.kf p)) V.ps):=iI (h.at (i:=1) rfl)
theorem kK (h:At B (mid B V W) s):gC s (B+2)=some (kT id (λ _=>.tup []) V.ws):=iI (h.at (i:=2) rfl)
theorem B7 (h:At B (mid B V W) s):gC s (B+3)=some []:=iI (h.at (i:=3) rfl)
theorem yG (h:At B (mid B V W) s):gC s (B+4)=some []:=iI (h.at (i:=4) rfl)
theorem B5 (h:At B (mid B V W) s):gC s (B+5)=some []:=iI (h.at (i:=5) rfl)
theorem Bc (h:At B (mid B V W) s):ak s (B+6)=some []:=cC (h.at (i:=6) rfl)
theorem Bf (h:At B (mid B V W) s):ak s (B+7)=some []:=cC (h.at (i:=7) rfl)
theorem bS (h:At B (mid B V W) s):ak s (B+8)=some (W.ps.map .str):=cC (h.at (i:=8) rfl)
theorem eV (h:At B (mid B V W) s):gC s (B+9)=some (kT id (λ _=>.tup []) W.ws):=iI (h.at (i:=9) rfl)
theorem Be (h:At B (mid B V W) s):ak s (B+10)=some []:=cC (h.at (i:=10) rfl)
theorem B6 (h:At B (mid B V W) s):gC s (B+11)=some []:=iI (h.at (i:=11) rfl)
theorem Bb (h:At B (mid B V W) s):ak s (B+12)=some []:=cC (h.at (i:=12) rfl)
theorem Gm (h:At B (mid B V W) s):gC s (B+13)=some W.kw:=iI (h.at (i:=13) rfl)
theorem Gj (h:At B (mid B V W) s):gC s (B+14)=some (qK B W.h):=iI (h.at (i:=14) rfl)
theorem Lu (h:At B (mid B V W) s):ak s (B+15)=some []:=cC (h.at (i:=15) rfl)
theorem Lv (h:At B (mid B V W) s):ak s (B+16)=some []:=cC (h.at (i:=16) rfl)
theorem kh {i:Nat}{kvs:List (Key × AV)}{x:Str}(h:gC s i=some kvs):jT (.str x) (.ref i) s=.ok (.bl (aP kvs (.inr x)).isSome) s:=by
 show(need (gC s i) λ kvs=>need (f7 (.str x)) λ k=>R.ok (AV.bl (aP kvs k).isSome) s)=_
 rw[h];rfl
theorem oV {i:Nat}{kvs:List (Key × AV)}{x:Str}(h:gC s i=some kvs):pI (.str x) (.ref i) s=.ok (.bl (!(aP kvs (.inr x)).isSome)) s:=by
 show(need (gC s i) λ kvs=>need (f7 (.str x)) λ k=>R.ok (AV.bl (!(aP kvs k).isSome)) s)=_
 rw[h];rfl
theorem xp {i:Nat}{kvs:List (Key × AV)}{x:Str}{v:AV}(h:gC s i=some kvs)(e:aP kvs (.inr x)=some v):bc (.ref i) (.str x) s=.ok v s:=by
 show(need (gC s i) λ kvs=>need (f7 (.str x)) λ k=>need (aP kvs k) λ v=>R.ok v s)=_
 rw[h,aj,show f7 (.str x)=some (.inr x) from rfl,aj,e];rfl
theorem eN {g:Str->AV}{x:Str}{l:List Str}:(aP (kT id g l) (.inr x)).isSome=decide (x∈l):=by
 by_cases h:x∈l
 ·rw[sh h,decide_eq_true h];rfl
 ·rw[GB h,decide_eq_false h];rfl
end
theorem Mi {n:Nat}{b:Ms}{as:List AV}{s s1:S}{v:AV}{env:En}(h:b env s=.rt v s1)(he:env=as.map some++List.replicate (n - as.length) none:=by rfl):eB n b as s=.ok v s1:=by subst he;unfold eB;rw[h]
theorem qb {n:Nat}{b:Ms}{as:List AV}{s s1:S}{e env:En}(h:b env s=.nx e s1)(he:env=as.map some++List.replicate (n - as.length) none:=by rfl):eB n b as s=.ok .az s1:=by subst he;unfold eB;rw[h]
theorem i9 {n:Nat}{b:Ms}{as:List AV}{s s1:S}{c:AX}{env:En}(h:b env s=.ex c s1)(he:env=as.map some++List.replicate (n - as.length) none:=by rfl):eB n b as s=.ex c s1:=by subst he;unfold eB;rw[h]
theorem lq {a b:Ms}{env:En}{s s1:S}{c:AX}(h:a env s=.ex c s1):aC a b env s=.ex c s1:=by unfold aC;rw[h]
theorem ll {a b:Ms}{env e:En}{s s1:S}(h:a env s=.nx e s1):aC a b env s=b e s1:=by unfold aC;rw[h]
theorem cN {m:Ev}{env:En}{s s1:S}{c:AX}(h:m env s=.ex c s1):bI m env s=.ex c s1:=by unfold bI;rw[h];rfl
theorem iq {m:Ev}{env:En}{s s1:S}{v:AV}(h:m env s=.ok v s1):bI m env s=.nx env s1:=by unfold bI;rw[h];rfl
theorem oE {c:Eb}{a b:Ms}{env:En}{s s1:S}(h:c env s=.ok true s1):fS c a b env s=a env s1:=by unfold fS;rw[h];rfl
theorem jD {c:Eb}{a b:Ms}{env:En}{s s1:S}(h:c env s=.ok false s1):fS c a b env s=b env s1:=by unfold fS;rw[h];rfl
theorem iQ {v:AV}{l:En}{s:S}:mv 0 (some v :: l) s=.ok v s:=rfl
theorem mw {x:Option AV}{v:AV}{l:En}{s:S}:mv 1 (x :: some v :: l) s=.ok v s:=rfl
theorem Lg {c:Nat}{m:Str}{F:List AV->S->R AV}{mo ma:Ev}{env:En}{s:S}{i:Nat}{v:AV}{fs:List (Str × AV)}(h:s[i]? = some (.ins c fs)) (l:fs.lookup m=none)(e1:mo env s=.ok (.ref i) s) (e2:ma env s=.ok v s):aX c m 1 F mo (aa ma ag) env s=F [.ref i,v] s:=by
 unfold aX aa ag
 rw[e1,aA,kH h]
 dsimp only[need]
 rw[if_pos l,e2]
 rfl
theorem Lh {c:Nat}{m:Str}{F:List AV->S->R AV}{mo:Ev}{env:En}{s:S}{i:Nat}{fs:List (Str × AV)}(h:s[i]? = some (.ins c fs)) (l:fs.lookup m=none)(e1:mo env s=.ok (.ref i) s):aX c m 0 F mo ag env s=F [.ref i] s:=by
 unfold aX ag
 rw[e1,aA,kH h]
 dsimp only[need]
 rw[if_pos l]
 rfl
theorem Bl {a x:Str}{m:Ev}{env:En}{s:S}(h:a.length<=1000)(k:x.length<=1000)(e:m env s=.ok (.str x) s) (r:Ej)(Q:AV->S->Prop)(hr:∀ t:Str,t.length<=2000->((r t env s).bind λ t s1=>if t.length<=sizeLine then R.ok (AV.str t) s1 else .bad).wp Q):(nV (hZ (mc (.str a)) (hZ (cA pH m) r)) env s).wp Q:=by
 have l0:(Str.empty++a).length=a.length:=by rw[Str.length_append];show 0+_=_;omega
 have l1:(Str.empty++a++x).length=a.length+x.length:=by rw[Str.length_append,l0]
 unfold nV hZ mc cA
 simp only[aA]
 rw[if_pos (by rw[l0,sizeLine_eq];omega)]
 have ef:pH (.str x) s=.ok (.str x) s:=if_pos (by rw[sizeLine_eq];omega)
 simp only[e,aA,ef]
 rw[if_pos (by rw[l1,sizeLine_eq];omega)]
 exact hr _ (by rw[l1];omega)
theorem join_nil {env:En}{s:S}{Q:AV->S->Prop}(h:∀ t,Q (.str t) s):∀ t:Str,t.length<=2000->((uM t env s).bind λ t s1=>if t.length<=sizeLine then R.ok (AV.str t) s1 else .bad).wp Q:=λ t ht=>by
 unfold uM
 rw[aA,if_pos (by rw[sizeLine_eq];omega)]
 exact h t
theorem join_one {a:Str}{env:En}{s:S}{Q:AV->S->Prop}(ha:a.length<=1000)(h:∀ t,Q (.str t) s):∀ t:Str,t.length<=2000->((hZ (mc (.str a)) uM t env s).bind λ t s1=>if t.length<=sizeLine then R.ok (AV.str t) s1 else .bad).wp Q:=λ t ht=>by
 have l0:(t++a).length=t.length+a.length:=Str.length_append _ _
 unfold hZ mc uM
 simp only[aA]
 rw[if_pos (by rw[l0,sizeLine_eq];omega),aA,if_pos (by rw[l0,sizeLine_eq];omega)]
 exact h _
theorem zJ {c:Nat}{m:Ev}{env:En}{s:S}(h:(m env s).wp λ _ s1=>s1=s):FN c (aa m ag) env s=.ex ⟨c,[]⟩ s:=by
 obtain⟨v,s1,e,rfl⟩:=h.get
 unfold FN aa ag
 rw[e]
 rfl
section
variable {B:Nat}{V W:Wl}{s:S}
theorem f6 (h:At B (mid B V W) s) {x:Str}(hp:x∈V.ps):aH [.ref B,.str x] s=.ok .az s:=by
 unfold aH cP
 refine qb (env:=[some (.ref B),some (.str x)]) (jD (s1:=s) (R.wp.eq ?_))
 simp only[↓WS,↓WE,↓WV,Lq,af,UU,Nat.reduceSub,↓reduceIte,↓aB (eU (fw h) (fW B V.h)),↓aB (oV (fX h)),eN,hp,decide_true,Bool.not_true]
theorem gX (h:At B (mid B V W) s) {x:Str}(hx:x.length<=1000)(hp:x∉V.ps):aH [.ref B,.str x] s=.ex ⟨3,[]⟩ s:=by
 unfold aH cP
 refine i9 (env:=[some (.ref B),some (.str x)]) ((oE (s1:=s) (R.wp.eq ?_)).trans (zJ (Bl (by decide) hx rfl _ _ (join_nil λ _=>rfl))))
 simp only[↓WS,↓WE,↓WV,Lq,af,UU,Nat.reduceSub,↓reduceIte,↓aB (eU (fw h) (fW B V.h)),↓aB (oV (fX h)),eN,hp,decide_false,Bool.not_false]
theorem kS (h:At B (mid B V W) s) {x:Str}(hp:x∈V.ws):aU [.ref B,.str x] s=.ok .az s:=by
 unfold aU dF
 refine qb (env:=[some (.ref B),some (.str x)]) (jD (s1:=s) (R.wp.eq ?_))
 simp only[↓WS,↓WE,↓WV,Lq,af,UU,Nat.reduceSub,↓reduceIte,↓aB (eU (fw h) (kJ B V.h)),↓aB (oV (kK h)),eN,hp,decide_true,Bool.not_true]
theorem mq (h:At B (mid B V W) s) {x:Str}(hx:x.length<=1000)(hp:x∉V.ws):aU [.ref B,.str x] s=.ex ⟨3,[]⟩ s:=by
 unfold aU dF
 refine i9 (env:=[some (.ref B),some (.str x)]) ((oE (s1:=s) (R.wp.eq ?_)).trans (zJ (Bl (by decide) hx rfl _ _ (join_nil λ _=>rfl))))
 simp only[↓WS,↓WE,↓WV,Lq,af,UU,Nat.reduceSub,↓reduceIte,↓aB (eU (fw h) (kJ B V.h)),↓aB (oV (kK h)),eN,hp,decide_false,Bool.not_false]
theorem n5 (h:At B (mid B V W) s) (x:Str):b_ [.ref B,.str x] s=.ok (.bl (decide (x∈V.ps∨x∈V.ws))) s:=by
 apply R.wp.eq
 unfold b_ gy
 by_cases hp:x∈V.ps
 ·simp only[↓WS,↓WE,↓WV,Lq,af,UU,Nat.reduceSub,↓reduceIte,↓aB (eU (fw h) (fW B V.h)),↓aB (kh (fX h)),eN,hp,decide_true,true_or]
 ·simp only[↓WS,↓WE,↓WV,Lq,af,UU,Nat.reduceSub,↓reduceIte,↓aB (eU (fw h) (fW B V.h)),↓aB (kh (fX h)),eN,hp,decide_false,false_or,↓aB (eU (fw h) (kJ B V.h)),↓aB (kh (kK h))]
theorem c_ {F:List AV->S->R AV}{m:Str}{mo ma:Ev}{env:En}{x:AV}(h:At B (mid B V W) s) (l:((["keeps","rows","hands","makers","rates","half","money","debts"]:List Str).any λ f=>m == f)=false) (e1:mo env s=.ok (.ref B) s) (e2:ma env s=.ok x s):aX 9 m 1 F mo (aa ma ag) env s=F [.ref B,x] s:=Lg (fw h) (BM B V.h l) e1 e2
theorem nq {F:List AV->S->R AV}{m:Str}{mo:Ev}{env:En}(h:At B (mid B V W) s) (l:((["keeps","rows","hands","makers","rates","half","money","debts"]:List Str).any λ f=>m == f)=false) (e1:mo env s=.ok (.ref B) s):aX 9 m 0 F mo ag env s=F [.ref B] s:=Lh (fw h) (BM B V.h l) e1
theorem kU (h:At B (mid B V W) s) {x:Str}(hp:¬ (x∈V.ps∨x∈V.ws)):aV [.ref B,.str x] s=.ok .az s:=by
 unfold aV dG
 refine qb (env:=[some (.ref B),some (.str x)]) (jD (s1:=s) (R.wp.eq ?_))
 simp only[↓WS,↓WE,↓WV,Lq,af,UU,Nat.reduceSub,↓reduceIte,↓aB ((c_ (m:="has_name") h (by decide +kernel) iQ mw).trans (n5 h x)),hp,decide_false,fj]
theorem mr (h:At B (mid B V W) s) {x:Str}(hx:x.length<=1000)(hp:x∈V.ps∨x∈V.ws):aV [.ref B,.str x] s=.ex ⟨2,[]⟩ s:=by
 unfold aV dG
 refine i9 (env:=[some (.ref B),some (.str x)]) ((oE (s1:=s) (R.wp.eq ?_)).trans (zJ (Bl (by decide) hx rfl _ _ (join_one (by decide) λ _=>rfl))))
 simp only[↓WS,↓WE,↓WV,Lq,af,UU,Nat.reduceSub,↓reduceIte,↓aB ((c_ (m:="has_name") h (by decide +kernel) iQ mw).trans (n5 h x)),hp,decide_true,fj]
theorem jP {i:Nat}{kvs:List (Key × AV)}{x:Str}{v:AV}{env:En}(h:gC s i=some kvs)(l:kvs.length < 1000):putD v (.ref i) (.str x) env s=.nx env (s.set i (.dK (eI kvs (.inr x) v))):=by
 show(match gC s i,f7 (.str x) with
  | some kvs,some k=>if kvs.length < sizeLine then RS.nx env (s.set i (.dK (eI kvs k v))) else .bad
  | _,_=>.bad)=_
 rw[h]
 show(if kvs.length < sizeLine then _ else _)=_
 rw[if_pos (by rw[sizeLine_eq];omega)]
theorem sU {α:Type}(f:α->Str)(g:α->AV)(l:List α):(kT f g l).length=l.length:=by unfold kT;rw[List.length_map]
theorem qi (h:At B (mid B V W) s) {x:Str}(hp:¬ (x∈V.ps∨x∈V.ws)) (hl:V.ps.length < 1000)(hk:V.kf x=(0,1)):aZ [.ref B,.str x] s=.ok .az (s.set (B+1) (.dK (kT id (λ p=>kI (V.kf p)) (V.ps++[x])))):=by
 apply R.wp.eq
 unfold aZ da
 simp only[↓WS,↓WE,↓WV,Lq,af,UU,Nat.reduceSub,↓reduceIte,↓aB ((c_ (m:="need_free") h (by decide +kernel) iQ mw).trans (kU h hp)),↓aB (eU (fw h) (fW B V.h)),↓qo (jP (fX h) (by rw[sU];exact hl))]
 rw[mY (λ z=>hp (.inl z)) (by rw[hk];rfl)]
theorem qH (h:At B (mid B V W) s) {x:Str}(hx:x.length<=1000)(hp:x∈V.ps∨x∈V.ws):aZ [.ref B,.str x] s=.ex ⟨2,[]⟩ s:=by
 unfold aZ da
 exact i9 (env:=[some (.ref B),some (.str x)]) (lq (cN ((c_ (m:="need_free") h (by decide +kernel) iQ mw).trans (mr h hx hp))))
theorem tZ (h:At B (mid B V W) s) {x:Str}(hp:¬ (x∈V.ps∨x∈V.ws)) (hl:V.ws.length < 1000):bD [.ref B,.str x] s=.ok .az (s.set (B+2) (.dK (kT id (λ _=>.tup []) (V.ws++[x])))):=by
 apply R.wp.eq
 unfold bD dX
 simp only[↓WS,↓WE,↓WV,Lq,af,UU,Nat.reduceSub,↓reduceIte,↓aB ((c_ (m:="need_free") h (by decide +kernel) iQ mw).trans (kU h hp)),↓aB (eU (fw h) (kJ B V.h)),↓qo (jP (kK h) (by rw[sU];exact hl))]
 rw[mY (g:=λ _=>.tup []) (λ z=>hp (.inr z)) rfl]
theorem vg (h:At B (mid B V W) s) {x:Str}(hx:x.length<=1000)(hp:x∈V.ps∨x∈V.ws):bD [.ref B,.str x] s=.ex ⟨2,[]⟩ s:=by
 unfold bD dX
 exact i9 (env:=[some (.ref B),some (.str x)]) (lq (cN ((c_ (m:="need_free") h (by decide +kernel) iQ mw).trans (mr h hx hp))))
theorem sG (h:At B (mid B V W) s) {x:Str}{a:Int × Int}(hp:x∈V.ps)(hl:V.ps.length < 1000):bC [.ref B,.str x,kI a] s=.ok .az (s.set (B+1) (.dK (kT id (λ p=>kI (if p=x then a else V.kf p)) V.ps))):=by
 apply R.wp.eq
 unfold bC dS
 simp only[↓WS,↓WE,↓WV,Lq,af,UU,Nat.reduceSub,↓reduceIte,↓aB ((c_ (m:="need_person") h (by decide +kernel) iQ mw).trans (f6 h hp)),↓aB (eU (fw h) (fW B V.h)),↓qo (jP (fX h) (by rw[sU];exact hl))]
 rw[vF hp,Bj (g':=λ p=>kI (if p=x then a else V.kf p)) λ y _=>?_]
 show(if y=x then kI a else kI (V.kf y))=_
 split<;>rfl
theorem uq (h:At B (mid B V W) s) {x:Str}{a:AV}(hx:x.length<=1000)(hp:x∉V.ps):bC [.ref B,.str x,a] s=.ex ⟨3,[]⟩ s:=by
 unfold bC dS
 exact i9 (env:=[some (.ref B),some (.str x),some a]) (lq (cN ((c_ (m:="need_person") h (by decide +kernel) iQ mw).trans (gX h hx hp))))
theorem ur (h:At B (mid B V W) s) (d:Int):bN [.ref B,.int d] s=.ok .az (s.set B (.ins 9 (qm B d))):=by
 apply R.wp.eq
 unfold bN gw
 simp only[↓WS,↓WE,↓WV,Lq,af,UU,Nat.reduceSub,↓reduceIte,↓CW,kH (fw h)]
 refine⟨by show 8 < 1000;omega,rfl⟩
theorem tj (h:At B (mid B V W) s):bU [.ref B] s=.ok (.int V.h) s:=by
 apply R.wp.eq
 unfold bU fJ
 simp only[↓WS,↓WE,↓WV,Lq,af,UU,Nat.reduceSub,↓reduceIte,↓aB (eU (fw h) (Fc B V.h))]
end
end Ro
namespace Mm
open PySem L2
mutual
theorem Rp.low {b:Nat}{s:S}:∀ {d:Dt}{v:AV},Rp b s d v->v.low s.length=true
 | .az,_,h=>by unfold Rp at h;subst h;simp only[AV.low]
 | .bl _,_,h=>by unfold Rp at h;exact h.elim
 | .int _,_,h=>by unfold Rp at h;subst h;simp only[AV.low]
 | .str _,_,h=>by unfold Rp at h;subst h;simp only[AV.low]
 | .tup l,_,h=>by
  unfold Rp at h
  obtain⟨xs,rfl,_,h⟩:=h
  simp only[AV.low];exact cH.low h
 | .lst l,_,h=>by
  unfold Rp at h
  obtain⟨i,xs,rfl,_,h1,_⟩:=h
  simp only[AV.low,decide_eq_true_eq]
  exact(List.getElem?_eq_some_iff.mp (aw h1)).1
theorem cH.low {b:Nat}{s:S}:∀ {l:List Dt}{xs:List AV},cH b s l xs->aG s.length xs=true
 | [],_,h=>by unfold cH at h;subst h;simp only[aG]
 | _ :: _,_,h=>by
  unfold cH at h
  obtain⟨x,r,rfl,h1,h2⟩:=h
  simp only[aG,Rp.low h1,cH.low h2];rfl
end
theorem cH.append {b:Nat}{s:S}:∀ {l q:List Dt}{xs ys:List AV},cH b s l xs->cH b s q ys->cH b s (l++q) (xs++ys)
 | [],_,_,_,h,k=>by unfold cH at h;subst h;exact k
 | _ :: _,_,_,_,h,k=>by
  unfold cH at h
  obtain⟨x,r,rfl,h1,h2⟩:=h
  exact .cons h1 (cH.append h2 k)
theorem cH.one {b:Nat}{s:S}{d:Dt}{v:AV}(h:Rp b s d v):cH b s [d] [v]:=.cons h .nil
theorem dz {b:Nat}{s:S}{l:List Dt}{xs:List AV}(c:Cl s)(h:cH b s l xs):Cl (s++[.lst xs]):=c.add (by
 have:=h.low
 simp only[List.all_cons,List.all_nil,AO.low,Bool.and_true]
 exact aG.mono (by simp) this)
theorem dR {b:Nat}{s:S}{l:List Dt}{xs:List AV}(hb:b<=s.length)(hl:l.length<=1000)(h:cH b s l xs):Rp b (s++[.lst xs]) (.lst l) (.ref s.length):=lr (Ro.aM s xs) hb hl (h.app _)
def nice (b:Nat):AV->Bool
 | .ref i=>decide (b<=i)
 | .sq _=>false
 | _=>true
structure Ct (b:Nat)(s:S):Prop where
 cl:Cl s
 nl:∀ i o,b<=i->s[i]? = some o->∃ xs,o=.lst xs/\xs.length<=1000/\(∀ v∈xs,nice b v=true)/\aG i xs=true
 le:b<=s.length
theorem Rp.nice {b:Nat}{s:S}{d:Dt}{v:AV}(h:Rp b s d v):nice b v=true:=by
 cases v with
 | ref i=>
  cases d with
  | lst l=>unfold Rp at h;obtain⟨j,xs,e,hb,_⟩:=h;cases e;exact decide_eq_true hb
  | az=>unfold Rp at h;cases h
  | bl _=>unfold Rp at h;exact h.elim
  | int _=>unfold Rp at h;cases h
  | str _=>unfold Rp at h;cases h
  | tup _=>unfold Rp at h;obtain⟨_,e,_⟩:=h;cases e
 | sq l=>
  cases d with
  | lst l=>unfold Rp at h;obtain⟨j,xs,e,hb,_⟩:=h;cases e
  | az=>unfold Rp at h;cases h
  | bl _=>unfold Rp at h;exact h.elim
  | int _=>unfold Rp at h;cases h
  | str _=>unfold Rp at h;cases h
  | tup _=>unfold Rp at h;obtain⟨_,e,_⟩:=h;cases e
 | _=>rfl
theorem cH.nice {b:Nat}{s:S}:∀ {l:List Dt}{xs:List AV},cH b s l xs->∀ v∈xs,nice b v=true
 | [],_,h=>by unfold cH at h;subst h;intro v hv;cases hv
 | _ :: _,_,h=>by
  unfold cH at h
  obtain⟨x,r,rfl,h1,h2⟩:=h
  intro v hv
  rcases List.mem_cons.mp hv with rfl|hv
  ·exact h1.nice
  ·exact cH.nice h2 v hv
theorem Ct.push {b:Nat}{s:S}{l:List Dt}{xs:List AV}(c:Ct b s)(hl:l.length<=1000)(h:cH b s l xs):Ct b (s++[.lst xs]):=⟨dz c.cl h,λ i o hi e=>by
 by_cases k:i < s.length
 ·rw[List.getElem?_append_left k]at e;exact c.nl i o hi e
 ·rw[List.getElem?_append_right (by omega)]at e
  have hz:i - s.length=0:=by
   have:=(List.getElem?_eq_some_iff.mp e).1
   simp at this;omega
  rw[hz]at e
  cases e
  exact⟨xs,rfl,by rw[<-h.length];exact hl,h.nice,by have:=h.low;rwa [show i=s.length by omega]⟩,by have:=c.le;simp;omega⟩
theorem Ct.start {s:S}(c:Cl s):Ct s.length s:=⟨c,λ i o hi e=>absurd (List.getElem?_eq_some_iff.mp e).1 (by omega),Nat.le_refl _⟩
theorem t6 {b:Nat}{s:S}{l q:List Dt}{v w:AV}(h:Rp b s (.lst l) v) (k:Rp b s (.lst q) w) (hl:l.length+q.length<=1000)(hb:b<=s.length):∃ xs,cZ v w s=.ok (.ref s.length) (s++[.lst xs])/\cH b s (l++q) xs/\Rp b (s++[.lst xs]) (.lst (l++q)) (.ref s.length):=by
 unfold Rp at h k
 obtain⟨i,xs,rfl,_,h1,_,h2⟩:=h
 obtain⟨j,ys,rfl,_,k1,_,k2⟩:=k
 have l1:=h2.length
 have l2:=k2.length
 refine⟨xs++ys,Ca h1 k1 (xT (by omega)),h2.append k2,dR hb (by simp;omega) (h2.append k2)⟩
theorem ki {eL:Mt}{test:Eb}{elt:Ev}{env:En}{s:S}{acc:List AV}:bY eL test elt [] [] env s acc=.ok acc s:=by unfold bY;exact if_pos (show tm [] s from λ p hp=>nomatch hp)
theorem jI {s:S}{i:Nat}{xs:List AV}(h:ak s i=some xs):zo (.ref i) s=.ok (xs,[(i,xs)]) s:=by
 show(need (ak s i) λ xs=>R.ok (xs,[(i,xs)]) s)=_
 rw[h];rfl
theorem km {b:Nat}(C:S->Prop){names:List Str}{i:Nat}{s:S}{elt:Ev}{x0:Option AV}{rest:En}(f:Str->Dt)(hg:ak s i=some (names.map AV.str)) (c:C s)
  (h:∀ x∈names,∀ e,C (s++e)->(elt (some (.str x) :: rest) (s++e)).wp λ v s'=>∃ e',s'=s++e++e'/\C s'/\Rp b s' (f x) v) :
  (bY (gN 0) js elt [(i,names.map AV.str)] (names.map AV.str) (x0 :: rest) s []).wp λ acc s'=>∃ e,s'=s++e/\C s'/\cH b s' (names.map f) acc:=by
 refine kL (λ xs acc env st=>∃ done r x e,names=done++r/\xs=r.map AV.str/\env=x :: rest/\st=s++e/\C st/\cH b st (done.map f) acc) ?_ ?_ ?_ _ _ _ _ ⟨[],names,x0,[],rfl,rfl,rfl,by simp,c,.nil⟩
 ·rintro _ _ _ st ⟨_,_,_,e,_,_,_,rfl,_⟩ p hp
  rw[List.mem_singleton.mp hp]
  exact aq hg
 ·rintro acc env st ⟨done,r,x,e,e1,e2,rfl,rfl,c1,h1⟩
  cases r with
  | cons=>cases e2
  | nil=>rw[List.append_nil]at e1;subst e1;exact⟨e,rfl,c1,h1⟩
 ·rintro v r acc env st ⟨done,r',x,e,e1,e2,rfl,rfl,c1,h1⟩
  cases r' with
  | nil=>cases e2
  | cons y r'=>
   cases e2
   walk_at "w"
   refine(h y (by rw[e1];simp) e c1).mono ?_
   rintro v s' ⟨e',rfl,c2,h2⟩
   exact⟨done++[y],r',_,e++e',by rw[e1];simp,rfl,rfl,by simp,c2,by rw[List.map_append];exact(h1.app e').append (.one h2)⟩
end Mm
namespace Ro
open PySem L2 Mm
abbrev oB:Str:="by_days.<locals>.<lambda>"
structure lb (B:Nat)(V W:Wl)(s:S):Prop where
 at_:At B (mid B V W) s
 cl:Cl s
 tab:s.any (tabAt 20 oB)=true
theorem lb.app {B:Nat}{V W:Wl}{s e:S}(h:lb B V W s)(c:Cl (s++e)):lb B V W (s++e):=⟨h.at_.app e,c,by rw[List.any_append,h.tab];rfl⟩
theorem v9 {B:Nat}{V W:Wl}{s:S}(h:At B (mid B V W) s) {f:Str}{v:AV}{l:En}(k:(qm B V.h).lookup f=some v):cA (cY 9 f) (mv 0) (some (.ref B) :: l) s=.ok v s:=by
 unfold cA
 rw[iQ,aA]
 exact eU (fw h) k
theorem su {s:S}{i:Nat}{kvs:List (Key × AV)}{ks:List Str}{m:Ev}{env:En}(h:gC s i=some kvs)(t:gD kvs=some ks)(l:ks.length < 64)(e:m env s=.ok (.ref i) s):lO m env s=.ok ((au ks).map AV.str) s:=by
 unfold lO
 rw[e,aA]
 dsimp only
 rw[h,aj,t,aj,if_pos l]
theorem qU {s:S}{i:Nat}{m:Ev}{env:En}(h:gC s i=some [])(e:m env s=.ok (.ref i) s):nF m env s=.ok [] s:=by
 unfold nF
 rw[e,aA]
 dsimp only
 rw[h]
 rfl
section
variable {B:Nat}{V W:Wl}{s:S}
theorem oq (h:At B (mid B V W) s) (l:V.ps.length < 64):bB [.ref B] s=.ok (.ref s.length) (s++[.lst ((au V.ps).map AV.str)]):=by
 apply R.wp.eq
 unfold bB dO
 simp only[↓WS,↓WE,↓WV,Lq,af,UU,Nat.reduceSub,↓reduceIte,↓aB (su (fX h) (si _ _ _) (by rw[List.map_id];exact l) (v9 h (fW B V.h))),List.map_id]
theorem qp (h:At B (mid B V W) s) (l:V.ws.length < 64):bJ [.ref B] s=.ok (.ref s.length) (s++[.lst ((au V.ws).map AV.str)]):=by
 apply R.wp.eq
 unfold bJ eX
 simp only[↓WS,↓WE,↓WV,Lq,af,UU,Nat.reduceSub,↓reduceIte,↓aB (su (kK h) (si _ _ _) (by rw[List.map_id];exact l) (v9 h (kJ B V.h))),List.map_id]
theorem nS (h:At B (mid B V W) s) {x:Str}(hp:x∈V.ws):bz [.ref B,.str x] s=.ok (.tup []) s:=by
 apply R.wp.eq
 unfold bz eY
 simp only[↓WS,↓WE,↓WV,Lq,af,UU,Nat.reduceSub,↓reduceIte,↓aB ((c_ (m:="need_work") h (by decide +kernel) iQ mw).trans (kS h hp)),↓aB (eU (fw h) (kJ B V.h)),↓aB (xp (kK h) (sh hp))]
theorem vC (h:At B (mid B V W) s) {x:Str}(hx:x.length<=1000)(hp:x∉V.ws):bz [.ref B,.str x] s=.ex ⟨3,[]⟩ s:=by
 unfold bz eY
 exact i9 (env:=[some (.ref B),some (.str x)]) (lq (cN ((c_ (m:="need_work") h (by decide +kernel) iQ mw).trans (mq h hx hp))))
theorem nY (h:At B (mid B V W) s) {x:Str}(hp:x∈V.ps):bA [.ref B,.str x] s=.ok (kI (V.kf x)) s:=by
 apply R.wp.eq
 unfold bA e_
 simp only[↓WS,↓WE,↓WV,Lq,af,UU,Nat.reduceSub,↓reduceIte,↓aB ((c_ (m:="need_person") h (by decide +kernel) iQ mw).trans (f6 h hp)),↓aB (eU (fw h) (fW B V.h)),↓aB (xp (fX h) (sh hp))]
theorem vU (h:At B (mid B V W) s) {x:Str}(hx:x.length<=1000)(hp:x∉V.ps):bA [.ref B,.str x] s=.ex ⟨3,[]⟩ s:=by
 unfold bA e_
 exact i9 (env:=[some (.ref B),some (.str x)]) (lq (cN ((c_ (m:="need_person") h (by decide +kernel) iQ mw).trans (gX h hx hp))))
theorem mF (h:At B (mid B V W) s) {x:Str}(hp:x∈V.ps):a_ [.ref B,.str x] s=.ok (.ref s.length) (s++[.lst []]):=by
 apply R.wp.eq
 unfold a_ dW
 simp only[↓WS,↓WE,↓WV,Lq,af,UU,Nat.reduceSub,↓reduceIte,↓aB ((c_ (m:="need_person") h (by decide +kernel) iQ mw).trans (f6 h hp)),↓aB (qU (B7 h) (v9 h (BO B V.h))),↓aB ki,List.length_nil,Nat.zero_le]
theorem uP (h:At B (mid B V W) s) {x:Str}(hx:x.length<=1000)(hp:x∉V.ps):a_ [.ref B,.str x] s=.ex ⟨3,[]⟩ s:=by
 unfold a_ dW
 exact i9 (env:=[some (.ref B),some (.str x)]) (lq (cN ((c_ (m:="need_person") h (by decide +kernel) iQ mw).trans (gX h hx hp))))
theorem pY {i:Nat}{kvs:List (Key × AV)}(h:gC s i=some kvs):(iY "dict" (.ref i) s).isSome=true:=by
 have e:=fP h
 unfold iY
 simp only[e];rfl
theorem xk {i:Nat}{x:Str}{d y:Ev}{env:En}(h:gC s i=some [])(e1:d env s=.ok (.ref i) s) (e2:y env s=.ok (.str x) s):rn d y env s=.ok .az s:=by
 obtain⟨u,eu⟩:=Option.isSome_iff_exists.mp (pY h)
 unfold rn
 rw[e1,aA,eu,aj,e2,aA]
 show(need (gC s i) λ kvs=>need (f7 (.str x)) λ k=>R.ok ((aP kvs k).getD .az) s)=_
 rw[h];rfl
theorem mC (h:At B (mid B V W) s) {x:Str}(hp:x∈V.ws):a9 [.ref B,.str x] s=.ok .az s:=by
 apply R.wp.eq
 unfold a9 dU
 simp only[↓WS,↓WE,↓WV,Lq,af,UU,Nat.reduceSub,↓reduceIte,↓aB ((c_ (m:="need_work") h (by decide +kernel) iQ mw).trans (kS h hp)),↓aB (xk (yG h) (v9 h (yD B V.h)) mw)]
theorem uK (h:At B (mid B V W) s) {x:Str}(hx:x.length<=1000)(hp:x∉V.ws):a9 [.ref B,.str x] s=.ex ⟨3,[]⟩ s:=by
 unfold a9 dU
 exact i9 (env:=[some (.ref B),some (.str x)]) (lq (cN ((c_ (m:="need_work") h (by decide +kernel) iQ mw).trans (mq h hx hp))))
theorem sE (h:At B (mid B V W) s):bT [.ref B] s=.ok (.ref s.length) (s++[.lst []]):=by
 apply R.wp.eq
 unfold bT fI
 simp only[↓WS,↓WE,↓WV,Lq,af,UU,Nat.reduceSub,↓reduceIte,↓aB (qU (B5 h) (v9 h (BL B V.h))),↓aB ki,List.length_nil,Nat.zero_le]
theorem oh {i:Nat}(h:ak s i=some [])(t:s.any (tabAt 20 oB)=true):dA [.ref i] s=.ok (.ref s.length) (s++[.lst []]):=by
 apply R.wp.eq
 have e:∀ l,qa 20 oB (mv 0) (some (.ref i) :: l) s=.ok [] s:=λ l=>by
  unfold qa
  rw[iQ,aA]
  dsimp only
  rw[h,aj,if_pos ⟨rfl,t⟩]
 unfold dA nJ
 simp only[↓WS,↓WE,↓WV,Lq,af,UU,Nat.reduceSub,↓reduceIte,↓aB (e _)]
theorem take_nil (c:Cl s){m:Ev}{env:En}(e:m env s=.ok (.ref s.length) (s++[.lst []])):jZ m env s=.ok [] s:=by
 apply R.wp.eq
 simp only[↓WS,↓WE,↓WV,Lq,af,UU,Nat.reduceSub,↓reduceIte,↓aB e,aM,↓jA,List.take_left]
 exact⟨Nat.le_refl _,c,by simp[aG]⟩
theorem qC (h:lb B V W s):bK [.ref B] s=.ok (.ref s.length) (s++[.lst []]):=by
 apply R.wp.eq
 have e:∀ l,aD 1 dA (aa (cA (cY 9 "money") (mv 0)) ag) (some (.ref B) :: l) s=.ok (.ref s.length) (s++[.lst []]):=λ l=>by
  unfold aD aa ag
  rw[v9 h.at_ (BN B V.h)]
  exact oh (Bc h.at_) h.tab
 unfold bK eZ
 simp only[↓WS,↓WE,↓WV,Lq,af,UU,Nat.reduceSub,↓reduceIte,↓aB (take_nil h.cl (e _))]
theorem tF (h:lb B V W s):bV [.ref B] s=.ok (.ref s.length) (s++[.lst []]):=by
 apply R.wp.eq
 have e:∀ l,aD 1 dA (aa (cA (cY 9 "debts") (mv 0)) ag) (some (.ref B) :: l) s=.ok (.ref s.length) (s++[.lst []]):=λ l=>by
  unfold aD aa ag
  rw[v9 h.at_ (BP B V.h)]
  exact oh (Bf h.at_) h.tab
 unfold bV fK
 simp only[↓WS,↓WE,↓WV,Lq,af,UU,Nat.reduceSub,↓reduceIte,↓aB (take_nil h.cl (e _))]
end
def pf (V:Wl):List Dt:=[.lst ((au V.ps).map .str),.lst ((au V.ws).map .str),.lst ((au V.ws).map λ _=>.tup []),.lst ((au V.ps).map λ _=>.lst [])]
def ui (V:Wl):List Dt:=[.lst ((au V.ws).map λ _=>.az),.lst ((au V.ps).map λ p=>.tup [.int (V.kf p).1,.int (V.kf p).2])]
def uh (V:Wl):List Dt:=[.lst [],.int V.h,.lst [],.lst []]
def told (V:Wl):Dt:=.lst (pf V++ui V++uh V)
theorem fT {b:Nat}(s:S)(l:List Str):cH b s (l.map Dt.str) (l.map AV.str):=cH.map λ a _=>zL s a
theorem pP {s:S}(c:Cl s):Cl (s++[.lst []]):=dz (b:=0) (l:=[]) c .nil
theorem sP {b:Nat}{s:S}(c:Ct b s):Ct b (s++[.lst []]):=c.push (l:=[]) (by simp) .nil
theorem lF {b:Nat}{s:S}(hb:b<=s.length):Rp b (s++[.lst []]) (.lst []) (.ref s.length):=dR hb (by simp) .nil
theorem zN {b:Nat}(s:S)(a:Int × Int):Rp b s (.tup [.int a.1,.int a.2]) (kI a):=vB (by simp) (.cons (sD s _) (.one (sD s _)))
theorem iW {x:Str}{l:List Str}:x∈au l ↔ x∈l:=(gU l).mem_iff
theorem jk {l:List Str}(h:l.length < 64){α:Type}(f:Str->α):((au l).map f).length<=1000:=by rw[List.length_map,xZ];omega
theorem FK {l:List Str}(h:l.length < 64){α:Type}(f:Str->α):((au l).map f).length<=sizeLine:=xT (jk h f)
theorem Kj {a b c d:AV}:([a,b,c,d].length<=sizeLine)=True:=eq_true (xT (by show 4<=1000;omega))
section
variable {B:Nat}{V W:Wl}{s:S}
theorem oi {b:Nat}(hb:b=s.length)(h:lb B V W s)(lp:V.ps.length < 64)(lw:V.ws.length < 64):(aN [.ref B] s).wp λ v s'=>∃ e,s'=s++e/\Ct b s'/\Rp b s' (told V) v:=by
 have c0:Ct b s:=by rw[hb];exact Ct.start h.cl
 have c1:Ct b (s++[.lst ((au V.ws).map AV.str)]):=c0.push (jk lw Dt.str) (fT _ _)
 have h1:=h.app c1.cl
 have c2:Ct b (s++[.lst ((au V.ws).map AV.str)]++[.lst ((au V.ps).map AV.str)]):=c1.push (jk lp Dt.str) (fT _ _)
 have h2:=h1.app c2.cl
 have Te:b<=(s++[AO.lst ((au V.ws).map AV.str)]).length:=c1.le
 have Td:b<=s.length:=c0.le
 clear hb c0
 have hw:ak (s++[.lst ((au V.ws).map AV.str)]++[.lst ((au V.ps).map AV.str)]) s.length=some ((au V.ws).map AV.str):=aq (aM _ _)
 have hp:ak (s++[.lst ((au V.ws).map AV.str)]++[.lst ((au V.ps).map AV.str)]) (s++[AO.lst ((au V.ws).map AV.str)]).length=some ((au V.ps).map AV.str):=aM _ _
 unfold aN gu
 simp only[↓WS,↓WE,↓WV,Lq,af,UU,Nat.reduceSub,↓reduceIte,↓aB ((nq (m:="work_names") h.at_ (by decide +kernel) iQ).trans (qp h.at_ lw)),↓aB ((nq (m:="person_names") h1.at_ (by decide +kernel) iQ).trans (oq h1.at_ lp))]
 rw[List.append_assoc]at *
 generalize ([AO.lst ((au V.ws).map AV.str)]++[AO.lst ((au V.ps).map AV.str)])=e0 at *
 generalize (s++[AO.lst ((au V.ws).map AV.str)]).length=ip at *
 generalize s.length=iw at *
 clear h1 c1
 simp only[↓WS,↓WE,↓WV,Lq,af,UU,Nat.reduceSub,↓reduceIte,↓aB (jI hw),Kj]
 refine⟨FK lw _,(km (b:=b) (Ct b) (λ _=>Dt.tup []) hw c2 ?_).mono ?_⟩
 ·intro x hx e ce
  rw[aB ((c_ (m:="rows_of") (h2.app ce.cl).at_ (by decide +kernel) mw iQ).trans (nS (h2.app ce.cl).at_ (iW.mp hx)))]
  exact⟨[],by simp,ce,vB (by simp) .nil⟩
 rintro iU s3 ⟨e1,rfl,c3,r3⟩
 have c4:=c3.push (jk lw _) r3
 have p4:=dR c3.le (jk lw _) r3
 have h4:lb B V W (s++e0++e1++[.lst iU]):=by rw[List.append_assoc];exact h2.app (by rw[<-List.append_assoc];exact c4.cl)
 have EV:ak (s++e0++e1++[.lst iU]) iw=some ((au V.ws).map AV.str):=aq (aq hw)
 have Bs:ak (s++e0++e1++[.lst iU]) ip=some ((au V.ps).map AV.str):=aq (aq hp)
 rw[List.append_assoc,List.append_assoc]at c4 p4 h4 EV Bs
 (try simp only[List.append_assoc]);(try simp only[List.append_assoc]at c4);(try simp only[List.append_assoc]at p4);(try simp only[List.append_assoc]at h4);(try simp only[List.append_assoc]at EV);(try simp only[List.append_assoc]at Bs)
 generalize e0++(e1++[AO.lst iU])=e2 at *
 generalize (s++(e0++e1)).length=ir at *
 clear r3 c3 h2 c2 hw hp
 simp only[↓WS,↓WE,↓WV,Lq,af,UU,Nat.reduceSub,↓reduceIte,↓aB (jI Bs),Kj]
 refine⟨FK lp _,(km (b:=b) (Ct b) (λ _=>Dt.lst []) Bs c4 ?_).mono ?_⟩
 ·intro x hx e ce
  rw[aB ((c_ (m:="hands_of") (h4.app ce.cl).at_ (by decide +kernel) mw iQ).trans (mF (h4.app ce.cl).at_ (iW.mp hx)))]
  exact⟨[.lst []],rfl,sP ce,lF ce.le⟩
 rintro handsL s5 ⟨e3,rfl,c5,r5⟩
 have c6:=c5.push (jk lp _) r5
 have p6:=dR c5.le (jk lp _) r5
 have QC:Rp b (s++e2++e3++[.lst handsL]) (.lst ((au V.ws).map λ _=>.tup [])) (.ref ir):=(p4.app e3).app _
 have h6:lb B V W (s++e2++e3++[.lst handsL]):=by rw[List.append_assoc];exact h4.app (by rw[<-List.append_assoc];exact c6.cl)
 have Pj:ak (s++e2++e3++[.lst handsL]) iw=some ((au V.ws).map AV.str):=aq (aq EV)
 have Pw:ak (s++e2++e3++[.lst handsL]) ip=some ((au V.ps).map AV.str):=aq (aq Bs)
 have rA:cH b (s++e2++e3++[.lst handsL]) (pf V) [.ref ip,.ref iw,.ref ir,.ref (s++e2++e3).length]:=.cons (lr Pw Te (jk lp _) (fT _ _)) (.cons (lr Pj Td (jk lw _) (fT _ _)) (.cons QC (.one p6)))
 have c7:=c6.push (show(pf V).length<=1000 by show 4<=1000;omega) rA
 have p7:=dR c6.le (show(pf V).length<=1000 by show 4<=1000;omega) rA
 have h7:=h6.app c7.cl
 have Ny:=aq (e:=[.lst [.ref ip,.ref iw,.ref ir,.ref (s++e2++e3).length]]) Pj
 have Pu:=aq (e:=[.lst [.ref ip,.ref iw,.ref ir,.ref (s++e2++e3).length]]) Pw
 clear rA c6 p6 QC h6 Pj Pw r5 c5 h4 c4 EV Bs p4
 (try simp only[List.append_assoc]);(try simp only[List.append_assoc]at c7);(try simp only[List.append_assoc]at p7);(try simp only[List.append_assoc]at h7);(try simp only[List.append_assoc]at Ny);(try simp only[List.append_assoc]at Pu)
 generalize e2++(e3++([AO.lst handsL]++[AO.lst [.ref ip,.ref iw,.ref ir,.ref (s++(e2++e3)).length]]))=e5 at *
 generalize (s++(e2++(e3++[AO.lst handsL]))).length=ia at *
 simp only[↓WS,↓WE,↓WV,Lq,af,UU,Nat.reduceSub,↓reduceIte,↓aB (jI Ny),Kj]
 refine⟨FK lw _,(km (b:=b) (Ct b) (λ _=>Dt.az) Ny c7 ?_).mono ?_⟩
 ·intro x hx e ce
  rw[aB ((c_ (m:="known_of") (h7.app ce.cl).at_ (by decide +kernel) mw iQ).trans (mC (h7.app ce.cl).at_ (iW.mp hx)))]
  exact⟨[],by simp,ce,zM _⟩
 rintro knL s8 ⟨e6,rfl,c8,r8⟩
 have c9:=c8.push (jk lw _) r8
 have p9:=dR c8.le (jk lw _) r8
 have OM:Rp b (s++e5++e6++[.lst knL]) (.lst (pf V)) (.ref ia):=(p7.app e6).app _
 have h9:lb B V W (s++e5++e6++[.lst knL]):=by rw[List.append_assoc];exact h7.app (by rw[<-List.append_assoc];exact c9.cl)
 have NC:ak (s++e5++e6++[.lst knL]) ip=some ((au V.ps).map AV.str):=aq (aq Pu)
 (try simp only[List.append_assoc]);(try simp only[List.append_assoc]at c9);(try simp only[List.append_assoc]at p9);(try simp only[List.append_assoc]at OM);(try simp only[List.append_assoc]at h9);(try simp only[List.append_assoc]at NC)
 generalize e5++(e6++[AO.lst knL])=e7 at *
 generalize (s++(e5++e6)).length=ik at *
 clear r8 c8 h7 c7 Ny Pu p7
 simp only[↓WS,↓WE,↓WV,Lq,af,UU,Nat.reduceSub,↓reduceIte,↓aB (jI NC),Kj]
 refine⟨FK lp _,(km (b:=b) (Ct b) (λ p=>Dt.tup [.int (V.kf p).1,.int (V.kf p).2]) NC c9 ?_).mono ?_⟩
 ·intro x hx e ce
  rw[aB ((c_ (m:="keep_of") (h9.app ce.cl).at_ (by decide +kernel) mw iQ).trans (nY (h9.app ce.cl).at_ (iW.mp hx)))]
  exact⟨[],by simp,ce,zN _ _⟩
 rintro kpL Qx ⟨e8,rfl,JQ,Ku⟩
 have NU:=JQ.push (jk lp _) Ku
 have QG:=dR JQ.le (jk lp _) Ku
 have KI:Rp b (s++e7++e8++[.lst kpL]) (.lst (pf V)) (.ref ia):=(OM.app e8).app _
 have Ky:Rp b (s++e7++e8++[.lst kpL]) (.lst ((au V.ws).map λ _=>.az)) (.ref ik):=(p9.app e8).app _
 have NK:lb B V W (s++e7++e8++[.lst kpL]):=by rw[List.append_assoc];exact h9.app (by rw[<-List.append_assoc];exact NU.cl)
 have rB:cH b (s++e7++e8++[.lst kpL]) (ui V) [.ref ik,.ref (s++e7++e8).length]:=.cons Ky (.one QG)
 have NT:=NU.push (show(ui V).length<=1000 by show 2<=1000;omega) rB
 have QF:=dR NU.le (show(ui V).length<=1000 by show 2<=1000;omega) rB
 obtain⟨ys,ey,QB,QE⟩:=t6 (KI.app [.lst [.ref ik,.ref (s++e7++e8).length]]) QF (by show 4+2<=1000;omega) NT.le
 have NS:=NT.push (by show 6<=1000;omega) QB
 simp only[<-List.append_assoc]
 rw[aB ey]
 have NJ:=(NK.app NT.cl).app NS.cl
 clear QB rB NT QF ey KI Ky QG NK NU Ku JQ h9 c9 NC p9 OM
 (try simp only[List.append_assoc]);(try simp only[List.append_assoc]at NS);(try simp only[List.append_assoc]at QE);(try simp only[List.append_assoc]at NJ)
 generalize e7++(e8++([AO.lst kpL]++([AO.lst [.ref ik,.ref (s++(e7++e8)).length]]++[AO.lst ys])))=NQ at *
 generalize (s++(e7++(e8++([AO.lst kpL]++[AO.lst [.ref ik,.ref (s++(e7++e8)).length]])))).length=ib at *
 have Qj:=sP NS
 have Mb:=NJ.app Qj.cl
 have Qi:=sP Qj
 have JP:=Mb.app Qi.cl
 have Rf:=sP Qi
 simp only[↓WS,↓WE,↓WV,Lq,af,UU,Nat.reduceSub,↓reduceIte,↓aB ((nq (m:="rate_list") NJ.at_ (by decide +kernel) iQ).trans (sE NJ.at_)),↓aB ((nq (m:="half_days") Mb.at_ (by decide +kernel) iQ).trans (tj Mb.at_)),↓aB ((nq (m:="money_list") Mb.at_ (by decide +kernel) iQ).trans (qC Mb)),↓aB ((nq (m:="debt_list") JP.at_ (by decide +kernel) iQ).trans (tF JP)),Kj]
 have rC:cH b (s++NQ++[.lst []]++[.lst []]++[.lst []]) (uh V) [.ref (s++NQ).length,.int V.h,.ref (s++NQ++[AO.lst []]).length,.ref (s++NQ++[AO.lst []]++[AO.lst []]).length]:=.cons (((lF NS.le).app _).app _) (.cons (sD _ _) (.cons ((lF Qj.le).app _) (.one (lF Qi.le))))
 have Rc:=Rf.push (show(uh V).length<=1000 by show 4<=1000;omega) rC
 have RL:=dR Rf.le (show(uh V).length<=1000 by show 4<=1000;omega) rC
 obtain⟨zs,ez,RI,RK⟩:=t6 ((((QE.app _).app _).app _).app _) RL (by show 6+4<=1000;omega) Rc.le
 have Tb:=Rc.push (by show 10<=1000;omega) RI
 rw[aB ez]
 exact⟨_,by simp only[List.append_assoc];rfl,Tb,RK⟩
end
end Ro
namespace Mm
open PySem L2
def CM (f:Nat)(st:S)(d:Dt)(v:AV):Prop:=f < st.length/\∀ o,Rp 0 (st.set f o) d v
def iO (f:Nat)(st:S)(l:List Dt)(xs:List AV):Prop:=f < st.length/\∀ o,cH 0 (st.set f o) l xs
theorem wF {f:Nat}{st e:S}(h:f < st.length)(o:AO):(st++e).set f o=st.set f o++e:=List.set_append_left f o h
theorem CM.app {f:Nat}{st:S}{d:Dt}{v:AV}(h:CM f st d v)(e:S):CM f (st++e) d v:=⟨by have:=h.1;simp;omega,λ o=>by rw[wF h.1];exact(h.2 o).app e⟩
theorem iO.app {f:Nat}{st:S}{l:List Dt}{xs:List AV}(h:iO f st l xs)(e:S):iO f (st++e) l xs:=⟨by have:=h.1;simp;omega,λ o=>by rw[wF h.1];exact(h.2 o).app e⟩
theorem iO.set {f:Nat}{st:S}{l:List Dt}{xs:List AV}(h:iO f st l xs)(o:AO):iO f (st.set f o) l xs:=⟨by rw[List.length_set];exact h.1,λ o'=>by rw[List.set_set];exact h.2 o'⟩
theorem iO.GZ {f:Nat}{st:S}{l:List Dt}{xs:List AV}(h:iO f st l xs):cH 0 st l xs:=by
 have:=h.2 (st[f]'h.1)
 rwa [List.set_getElem_self]at this
theorem iO.append {f:Nat}{st:S}{l q:List Dt}{xs ys:List AV}(h:iO f st l xs)(k:iO f st q ys):iO f st (l++q) (xs++ys):=⟨h.1,λ o=>(h.2 o).append (k.2 o)⟩
theorem iO.one {f:Nat}{st:S}{d:Dt}{v:AV}(h:CM f st d v):iO f st [d] [v]:=⟨h.1,λ o=>.one (h.2 o)⟩
theorem pT {f i:Nat}{st:S}{xs:List AV}(n:i≠f)(h:ak st i=some xs)(o:AO):ak (st.set f o) i=some xs:=cC (by rw[List.getElem?_set_ne (Ne.symm n)];exact aw h)
theorem Dl {f i:Nat}{st:S}{l:List Dt}{xs:List AV}(n:i≠f)(e:ak st i=some xs)(hl:l.length<=1000)(h:iO f st l xs):CM f st (.lst l) (.ref i):=⟨h.1,λ o=>lr (pT n e o) (Nat.zero_le _) hl (h.2 o)⟩
theorem FP {f:Nat}{st:S}{l:List Dt}{xs:List AV}(hl:l.length<=1000)(h:iO f st l xs):CM f (st++[.lst xs]) (.lst l) (.ref st.length):=Dl (Nat.ne_of_gt h.1) (Ro.aM st xs) hl (h.app _)
def PL (Q:Str->AV->Prop):List Str->List AV->Prop
 | [],xs=>xs=[]
 | x :: r,xs=>∃ v t,xs=v :: t/\Q x v/\PL Q r t
theorem PL.mono {Q Q':Str->AV->Prop}(k:∀ x v,Q x v->Q' x v):∀ {l:List Str}{xs:List AV},PL Q l xs->PL Q' l xs
 | [],_,h=>h
 | _ :: _,_,⟨v,t,e,h1,h2⟩=>⟨v,t,e,k _ _ h1,PL.mono k h2⟩
theorem PL.snoc {Q:Str->AV->Prop}{y:Str}{v:AV}(hv:Q y v):∀ {l:List Str}{xs:List AV},PL Q l xs->PL Q (l++[y]) (xs++[v])
 | [],_,h=>by cases h;exact⟨v,[],rfl,hv,rfl⟩
 | _ :: _,_,⟨w,t,e,h1,h2⟩=>by cases e;exact⟨w,t++[v],rfl,h1,PL.snoc hv h2⟩
theorem PL.GZ {s:S}{f:Str->Dt}:∀ {l:List Str}{xs:List AV},PL (λ x v=>Rp 0 s (f x) v) l xs->cH 0 s (l.map f) xs
 | [],_,h=>by cases h;exact .nil
 | _ :: _,_,⟨w,t,e,h1,h2⟩=>by cases e;exact .cons h1 (PL.GZ h2)
theorem yH {names:List Str}{i:Nat}{s:S}{elt:Ev}{x0:Option AV}{rest:En}(P:S->Str->AV->Prop)(mono:∀ st e x v,P st x v->P (st++e) x v) (hg:ak s i=some (names.map AV.str)) (c:Cl s)
  (h:∀ x∈names,∀ e,Cl (s++e)->(elt (some (.str x) :: rest) (s++e)).wp λ v s'=>∃ e',s'=s++e++e'/\Cl s'/\P s' x v) :
  (bY (gN 0) js elt [(i,names.map AV.str)] (names.map AV.str) (x0 :: rest) s []).wp λ acc s'=>∃ e,s'=s++e/\Cl s'/\PL (P s') names acc:=by
 refine kL (λ xs acc env st=>∃ done r x e,names=done++r/\xs=r.map AV.str/\env=x :: rest/\st=s++e/\Cl st/\PL (P st) done acc) ?_ ?_ ?_ _ _ _ _ ⟨[],names,x0,[],rfl,rfl,rfl,by simp,c,rfl⟩
 ·rintro _ _ _ st ⟨_,_,_,e,_,_,_,rfl,_⟩ p hp
  rw[List.mem_singleton.mp hp]
  exact aq hg
 ·rintro acc env st ⟨done,r,x,e,e1,e2,rfl,rfl,c1,h1⟩
  cases r with
  | cons=>cases e2
  | nil=>rw[List.append_nil]at e1;subst e1;exact⟨e,rfl,c1,h1⟩
 ·rintro v r acc env st ⟨done,r',x,e,e1,e2,rfl,rfl,c1,h1⟩
  cases r' with
  | nil=>cases e2
  | cons y r'=>
   cases e2
   walk_at "w"
   refine(h y (by rw[e1];simp) e c1).mono ?_
   rintro v s' ⟨e',rfl,c2,h2⟩
   exact⟨done++[y],r',_,e++e',by rw[e1];simp,rfl,rfl,by simp,c2,PL.snoc h2 (h1.mono λ x v q=>mono _ e' x v q)⟩
theorem nI {names:List Str}{i f:Nat}{s:S}{elt:Ev}{x0:Option AV}{rest:En}(fd:Str->Dt)(hf:f < s.length)(hg:ak s i=some (names.map AV.str)) (c:Cl s)
  (h:∀ x∈names,∀ e,Cl (s++e)->(elt (some (.str x) :: rest) (s++e)).wp λ v s'=>∃ e',s'=s++e++e'/\Cl s'/\CM f s' (fd x) v) :
  (bY (gN 0) js elt [(i,names.map AV.str)] (names.map AV.str) (x0 :: rest) s []).wp λ acc s'=>∃ e,s'=s++e/\Cl s'/\iO f s' (names.map fd) acc:=by
 refine(yH (λ st x v=>CM f st (fd x) v) (λ st e x v q=>q.app e) hg c h).mono ?_
 rintro acc s' ⟨e,rfl,c1,p⟩
 exact⟨e,rfl,c1,by simp;omega,λ o=>PL.GZ (p.mono λ x v q=>q.2 o)⟩
theorem append_at {s:S}{i:Nat}{xs:List AV}{v:AV}(h:ak s i=some xs)(l:xs.length < 1000):bP (.ref i) [v] s=.ok .az (s.set i (.lst (xs++[v]))):=by
 unfold bP
 simp only[h,aj]
 rw[if_pos (bZ (by omega))]
end Mm
namespace Ro
open PySem L2 Mm
theorem mR (B:Nat)(h:Int):aP (qK B h) (.inr "people")=some (.ref (B+8)):=by rfl
theorem lW (B:Nat)(h:Int):aP (qK B h) (.inr "works")=some (.ref (B+9)):=by rfl
theorem zd (B:Nat)(h:Int):aP (qK B h) (.inr "hands")=some (.ref (B+10)):=by rfl
theorem zc (B:Nat)(h:Int):aP (qK B h) (.inr "known")=some (.ref (B+11)):=by rfl
theorem za (B:Nat)(h:Int):aP (qK B h) (.inr "rates")=some (.ref (B+12)):=by rfl
theorem ue (B:Nat)(h:Int):aP (qK B h) (.inr "keeps")=some (.ref (B+13)):=by rfl
theorem CT (B:Nat)(h:Int):aP (qK B h) (.inr "half")=some (.int h):=by rfl
theorem zb (B:Nat)(h:Int):aP (qK B h) (.inr "money")=some (.ref (B+15)):=by rfl
theorem ze (B:Nat)(h:Int):aP (qK B h) (.inr "debts")=some (.ref (B+16)):=by rfl
section
variable {B:Nat}{V W:Wl}{s:S}
theorem qq (h:At B (mid B V W) s) {x:Str}{v:AV}(e:aP (qK B W.h) (.inr x)=some v):bc (.ref (B+14)) (.str x) s=.ok v s:=xp (Gj h) e
theorem qJ (h:At B (mid B V W) s) {x:Str}{v:AV}{m:Ev}{env:En}(e:aP (qK B W.h) (.inr x)=some v) (em:m env s=.ok (.ref (B+14)) s):ae bc m (mc (.str x)) env s=.ok v s:=by
 unfold ae mc
 rw[em,aA,aA]
 exact qq h e
theorem qO:∀ l:List Str,ug (l.map AV.str)=some l
 | []=>rfl
 | x :: r=>by show(ug (r.map AV.str)).map (x :: ·)=_;rw[qO r];rfl
theorem wC {i:Nat}{l:List Str}{m:Ev}{env:En}(h:ak s i=some (l.map AV.str)) (hl:l.length < 64)(e:m env s=.ok (.ref i) s):lM m env s=.ok ((au l).map AV.str) s:=by
 unfold lM
 rw[e,aA]
 dsimp only
 rw[h,aj,qO,aj,if_pos hl]
theorem qS {m:dY}{env:En}(e:m env s=.ok [] s):lN m env s=.ok [] s:=by
 unfold lN
 rw[e,aA]
 rfl
theorem ym {l:Lc}{m:Ev}{eL:Mt}{test:Eb}{elt:Ev}{env:En}{i:Nat}(h:ak s i=some [])(e:m env s=.ok (.ref i) s):cj l (fR m) eL test elt env s=.ok [] s:=by
 apply R.wp.eq
 simp only[↓WS,↓WE,↓WV,Lq,af,UU,Nat.reduceSub,↓reduceIte,↓aB e,↓aB (jI h)]
 have ec:∀ mL,bY eL test elt [(i,[])] [] mL s []=.ok [] s:=λ mL=>by
  unfold bY
  exact if_pos (show tm [(i,[])] s from λ p hp=>by rw[List.mem_singleton.mp hp];exact h)
 rw[aB (ec _)]
 exact⟨rfl,rfl⟩
theorem E6 {i:Nat}{x:Str}{kvs:List (Key × AV)}{z:AV}{d y w:Ev}{env:En}(h:gC s i=some kvs)(e1:d env s=.ok (.ref i) s) (e2:y env s=.ok (.str x) s) (e3:w env s=.ok z s):pS d y w env s=.ok ((aP kvs (.inr x)).getD z) s:=by
 obtain⟨u,eu⟩:=Option.isSome_iff_exists.mp (pY h)
 unfold pS
 rw[e1,aA,eu,aj,e2,aA,e3,aA]
 show(need (gC s i) λ kvs=>need (f7 (.str x)) λ k=>R.ok ((aP kvs k).getD z) s)=_
 rw[h];rfl
theorem mE {i:Nat}(h:ak s i=some []):bM [.ref i] s=.ok (.ref s.length) (s++[.lst []]):=by
 apply R.wp.eq
 have e:∀ {lc tg te el l},cj lc (xV (mv 0)) tg te el (some (AV.ref i) :: l) s=.ok [] s:=λ {lc tg te el l}=>by
  have e1:xV (mv 0) (some (AV.ref i) :: l) s=.ok ([],[(i,[])]) s:=by
   unfold xV
   rw[iQ,aA]
   show(need ((ak s i).map λ xs=>(xs,[(i,xs)])) λ p=>R.ok (rR p.1,p.2) s)=_
   rw[h];rfl
  unfold cj
  rw[e1,aA]
  dsimp only
  rw[if_pos (show([]:List AV).length<=sizeLine from Nat.zero_le _)]
  unfold bY
  exact if_pos (show tm [(i,[])] s from λ p hp=>by rw[List.mem_singleton.mp hp];exact h)
 unfold bM gp
 simp only[↓WS,↓WE,↓WV,Lq,af,UU,Nat.reduceSub,↓reduceIte,↓aB (qS e),↓aB ki,List.length_nil,Nat.zero_le]
theorem J6 {env:En}:jj (aa (mc (.int 0)) (aa (mc (.int 1)) ag)) env s=.ok (.tup [.int 0,.int 1]) s:=by
 apply R.wp.eq
 walk_at "w"
structure Bd (s:S)(f ip iw:Nat)(P Q:List AV)(L:List Dt)(items:List AV)(st:S):Prop where
 cl:Cl st
 ex:∃ e,st=s++e
 fl:s.length<=f
 hp:ak st ip=some P
 np:ip≠f
 hw:ak st iw=some Q
 nw:iw≠f
 hf:ak st f=some items
 rp:iO f st L items
theorem zK {t:S}{l:List Dt}{xs:List AV}(o:AO)(h:cH 0 t l xs):iO t.length (t++[o]) l xs:=⟨by simp,λ o'=>by
 have:(t++[o]).set t.length o'=t++[o']:=by rw[List.set_append_right _ _ (Nat.le_refl _)];simp
 rw[this];exact h.app _⟩
theorem Bd.append {f ip iw:Nat}{P Q acc:List AV}{L D:List Dt}{items:List AV}{st e:S}(h:Bd s f ip iw P Q L items st)(c:Cl (st++e)) (r:iO f (st++e) D acc) (hD:D.length<=1000)(hl:items.length < 900) :
  bP (AV.ref f) [AV.ref (st++e).length] (st++e++[AO.lst acc])=.ok .az ((st++e++[AO.lst acc]).set f (AO.lst (items++[AV.ref (st++e).length])))/\
   Bd s f ip iw P Q (L++[.lst D]) (items++[AV.ref (st++e).length]) ((st++e++[AO.lst acc]).set f (AO.lst (items++[AV.ref (st++e).length]))):=by
 have hf:ak (st++e++[AO.lst acc]) f=some items:=aq (aq h.hf)
 have c1:Cl (st++e++[AO.lst acc]):=dz c r.GZ
 have p1:CM f (st++e++[AO.lst acc]) (.lst D) (.ref (st++e).length):=FP hD r
 have r1:iO f (st++e++[AO.lst acc]) (L++[.lst D]) (items++[AV.ref (st++e).length]):=((h.rp.app e).app _).append (.one p1)
 refine⟨Mm.append_at hf (by omega),?_⟩
 obtain⟨e0,rfl⟩:=h.ex
 exact {
  cl:=c1.set (cH.low r1.GZ)
  ex:=⟨(e0++e++[AO.lst acc]).set (f - s.length) (AO.lst (items++[AV.ref (s++e0++e).length])),by rw[List.append_assoc,List.append_assoc,List.set_append_right _ _ h.fl];simp only[List.append_assoc]⟩
  fl:=h.fl
  hp:=pT h.np (aq (aq h.hp)) _
  np:=h.np
  hw:=pT h.nw (aq (aq h.hw)) _
  nw:=h.nw
  hf:=my hf
  rp:=r1.set _ }
theorem wm (h:lb B V W s)(lp:W.ps.length < 64)(lw:W.ws.length < 64)(hk:∀ p∈W.ps,(aP W.kw (.inr p)).getD (.tup [.int 0,.int 1])=kI (W.kf p)):(bx [.ref (B+14)] s).wp λ v s'=>∃ e,s'=s++e/\Cl s'/\Rp 0 s' (told W) v:=by
 have c1:Cl (s++[.lst ((au W.ws).map AV.str)]):=dz (b:=0) h.cl (fT _ _)
 have h1:=h.app c1
 have c2:Cl (s++[.lst ((au W.ws).map AV.str)]++[.lst ((au W.ps).map AV.str)]):=dz (b:=0) c1 (fT _ _)
 have h2:=h1.app c2
 have hw:ak (s++[.lst ((au W.ws).map AV.str)]++[.lst ((au W.ps).map AV.str)]) s.length=some ((au W.ws).map AV.str):=aq (aM _ _)
 have hp:ak (s++[.lst ((au W.ws).map AV.str)]++[.lst ((au W.ps).map AV.str)]) (s++[AO.lst ((au W.ws).map AV.str)]).length=some ((au W.ps).map AV.str):=aM _ _
 unfold bx g_
 simp only[↓WS,↓WE,↓WV,Lq,af,UU,Nat.reduceSub,↓reduceIte,↓aB (su (eV h.at_) (si _ _ _) (by rw[List.map_id];exact lw) (qJ h.at_ (lW B W.h) iQ)),List.map_id,↓aB (wC (bS h1.at_) lp (qJ h1.at_ (mR B W.h) iQ))]
 rw[List.append_assoc]at *
 generalize ([AO.lst ((au W.ws).map AV.str)]++[AO.lst ((au W.ps).map AV.str)])=e0 at *
 generalize (s++[AO.lst ((au W.ws).map AV.str)]).length=ip at *
 generalize s.length=iw at *
 clear h1 c1
 simp only[↓WS,↓WE,↓WV,Lq,af,UU,Nat.reduceSub,↓reduceIte,↓aB (jI hw)]
 refine⟨FK lw _,(km (b:=0) Cl (λ _=>Dt.tup []) hw c2 ?_).mono ?_⟩
 ·intro x hx e ce
  simp only[↓WS,↓WE,↓WV,Lq,af,UU,Nat.reduceSub,↓reduceIte,↓aB (qq (h2.app ce).at_ (lW B W.h)),↓aB (xp (eV (h2.app ce).at_) (sh (iW.mp hx)))]
  exact⟨[],by simp,ce,vB (by simp) .nil⟩
 rintro iU s3 ⟨e1,rfl,c3,r3⟩
 have c4:=dz c3 r3
 have p4:=dR (Nat.zero_le _) (jk lw _) r3
 have h4:lb B V W (s++e0++e1++[.lst iU]):=by rw[List.append_assoc];exact h2.app (by rw[<-List.append_assoc];exact c4)
 have EV:ak (s++e0++e1++[.lst iU]) iw=some ((au W.ws).map AV.str):=aq (aq hw)
 have Bs:ak (s++e0++e1++[.lst iU]) ip=some ((au W.ps).map AV.str):=aq (aq hp)
 have rA:cH 0 (s++e0++e1++[.lst iU]) [.lst ((au W.ps).map .str),.lst ((au W.ws).map .str),.lst ((au W.ws).map λ _=>.tup [])] [.ref ip,.ref iw,.ref (s++e0++e1).length]:=.cons (lr Bs (Nat.zero_le _) (jk lp _) (fT _ _)) (.cons (lr EV (Nat.zero_le _) (jk lw _) (fT _ _)) (.one p4))
 have D1:Bd s (s++e0++e1++[AO.lst iU]).length ip iw ((au W.ps).map AV.str) ((au W.ws).map AV.str) _ _ (s++e0++e1++[.lst iU]++[.lst [.ref ip,.ref iw,.ref (s++e0++e1).length]]):={
  cl:=dz c4 rA
  ex:=⟨_,by simp only[List.append_assoc];rfl⟩
  fl:=by simp only[List.length_append];omega
  hp:=aq Bs
  np:=Nat.ne_of_lt (List.getElem?_eq_some_iff.mp (aw Bs)).1
  hw:=aq EV
  nw:=Nat.ne_of_lt (List.getElem?_eq_some_iff.mp (aw EV)).1
  hf:=aM _ _
  rp:=zK _ rA }
 clear rA c4 p4 h4 EV Bs r3 c3 h2 c2 hw hp
 generalize s++e0++e1++[AO.lst iU]++[AO.lst [.ref ip,.ref iw,.ref (s++e0++e1).length]]=FL at *
 generalize (s++e0++e1++[AO.lst iU]).length=f at *
 generalize [AV.ref ip,.ref iw,.ref (s++e0++e1).length]=Pa at *
 have QP:Pa.length=3:=by have:=D1.rp.GZ.length;simpa using this.symm
 have Ql:lb B V W FL:=by obtain⟨e,rfl⟩:=D1.ex;exact h.app D1.cl
 refine⟨j7 D1.hf,?_⟩
 simp only[↓WS,↓WE,↓WV,Lq,af,UU,Nat.reduceSub,↓reduceIte,↓aB (jI D1.hp)]
 refine⟨FK lp _,(nI (f:=f) (λ _=>Dt.lst []) D1.rp.1 D1.hp D1.cl ?_).mono ?_⟩
 ·intro x hx e ce
  have b:=Ql.app ce
  have en:∀ l,lN (cj [("_law_one",none),("_law_person",some 0)] (fR (ae bc (mv 1) (mc (.str "hands")))) (gN 0) (cB (ae dM (ae bj (mv 0) (mc (.int 0))) (mv 1))) (FV (mv 0) (oS (mc (.int 1))) oN)) (some (.str x) :: some (.ref (B+14)) :: l) (FL++e)=.ok [] (FL++e):=λ l=>qS (ym (Be b.at_) (qJ b.at_ (zd B W.h) mw))
  simp only[↓WS,↓WE,↓WV,Lq,af,UU,Nat.reduceSub,↓reduceIte,↓aB (en _)]
  exact⟨_,rfl,pP ce,(FP (by simp) ⟨(D1.rp.app e).1,λ o=>.nil⟩:CM f (FL++e++[.lst []]) (.lst []) _)⟩
 rintro hl s5 ⟨e3,rfl,c5,r5⟩
 obtain⟨ea,D2⟩:=D1.append c5 r5 (jk lp _) (by omega)
 rw[aB ea]
 clear ea r5 c5 Ql
 generalize (FL++e3++[AO.lst hl]).set f (.lst (Pa++[.ref (FL++e3).length]))=yN at *
 generalize EZ:Pa++[AV.ref (FL++e3).length]=O_ at *
 have QO:O_.length=4:=by rw[<-EZ];simp[QP]
 clear EZ QP D1
 have Qk:lb B V W yN:=by obtain⟨e,rfl⟩:=D2.ex;exact h.app D2.cl
 refine⟨j7 D2.hf,?_⟩
 simp only[↓WS,↓WE,↓WV,Lq,af,UU,Nat.reduceSub,↓reduceIte,↓aB (jI D2.hw)]
 refine⟨FK lw _,(nI (f:=f) (λ _=>Dt.az) D2.rp.1 D2.hw D2.cl ?_).mono ?_⟩
 ·intro x hx e ce
  have b:=Qk.app ce
  rw[aB (xk (x:=x) (B6 b.at_) (qJ b.at_ (zc B W.h) mw) iQ)]
  exact⟨[],by simp,ce,⟨(D2.rp.app e).1,λ o=>zM _⟩⟩
 rintro kl s6 ⟨e4,rfl,c6,r6⟩
 obtain⟨ea,D3⟩:=D2.append c6 r6 (jk lw _) (by omega)
 rw[aB ea]
 clear ea r6 c6 Qk
 generalize (yN++e4++[AO.lst kl]).set f (.lst (O_++[.ref (yN++e4).length]))=C6 at *
 generalize QX:O_++[AV.ref (yN++e4).length]=O9 at *
 have RW:O9.length=5:=by rw[<-QX];simp[QO]
 clear QX QO D2
 have Rg:lb B V W C6:=by obtain⟨e,rfl⟩:=D3.ex;exact h.app D3.cl
 refine⟨j7 D3.hf,?_⟩
 simp only[↓WS,↓WE,↓WV,Lq,af,UU,Nat.reduceSub,↓reduceIte,↓aB (jI D3.hp)]
 refine⟨FK lp _,(nI (f:=f) (λ p=>Dt.tup [.int (W.kf p).1,.int (W.kf p).2]) D3.rp.1 D3.hp D3.cl ?_).mono ?_⟩
 ·intro x hx e ce
  have b:=Rg.app ce
  rw[aB (E6 (x:=x) (Gm b.at_) (qJ b.at_ (ue B W.h) mw) iQ J6),hk x (iW.mp hx)]
  exact⟨[],by simp,ce,⟨(D3.rp.app e).1,λ o=>zN _ _⟩⟩
 rintro ql s7 ⟨e5,rfl,c7,r7⟩
 obtain⟨ea,D4⟩:=D3.append c7 r7 (jk lp _) (by omega)
 rw[aB ea]
 clear ea r7 c7 Rg
 generalize (C6++e5++[AO.lst ql]).set f (.lst (O9++[.ref (C6++e5).length]))=Oo at *
 generalize O9++[AV.ref (C6++e5).length]=Tu at *
 clear RW D3
 obtain⟨ex,rfl⟩:=D4.ex
 have b4:lb B V W (s++ex):=h.app D4.cl
 have b5:=b4.app (pP b4.cl)
 have e1:lM (ae bc (mv 0) (mc (.str "rates"))) [some (.ref (B+14)),some (.ref f),some (.ref iw),some (.ref ip)] (s++ex)=.ok [] (s++ex):=wC (l:=[]) (Bb b4.at_) (by decide) (qJ b4.at_ (za B W.h) iQ)
 rw[aB e1,aB (qq b5.at_ (CT B W.h))]
 have r5:cH 0 (s++ex++[.lst []]) [.lst [],.int W.h] [.ref (s++ex).length,.int W.h]:=.cons (lF (Nat.zero_le _)) (.one (sD _ _))
 have p5:Rp 0 (s++ex++[.lst []]) _ (.ref f):=lr (aq D4.hf) (Nat.zero_le _) (by show 6<=1000;omega) (D4.rp.GZ.app _)
 obtain⟨ys,ey,r6,p6⟩:=t6 (p5.app [.lst [.ref (s++ex).length,.int W.h]]) (dR (Nat.zero_le _) (by show 2<=1000;omega) r5) (by show 6+2<=1000;omega) (Nat.zero_le _)
 have c6:=dz (dz b5.cl r5) r6
 rw[aB ey]
 have b6:lb B V W (s++ex++[.lst []]++[.lst [.ref (s++ex).length,.int W.h]]++[.lst ys]):=(b5.app (dz b5.cl r5)).app c6
 clear ey D4 p5 r6 r5 e1 b5
 generalize Sd:s++ex++[AO.lst []]++[AO.lst [.ref (s++ex).length,.int W.h]]++[AO.lst ys]=s6 at *
 generalize (s++ex++[AO.lst []]++[AO.lst [.ref (s++ex).length,.int W.h]]).length=k6 at *
 have c7:=pP c6
 have b7:=b6.app c7
 have c8:=pP c7
 rw[aB (qq b6.at_ (zb B W.h)),aB (mE (Lu b6.at_))]
 dsimp only
 rw[aM,aj,List.take_left,if_pos ⟨Nat.le_refl _,c6,by simp[aG]⟩,nN,aB (qq b7.at_ (ze B W.h)),aB (mE (Lv b7.at_))]
 dsimp only
 rw[aM,aj,List.take_left,if_pos ⟨Nat.le_refl _,c7,by simp[aG]⟩,nN]
 have r8:cH 0 (s6++[.lst []]++[.lst []]) [.lst [],.lst []] [.ref s6.length,.ref (s6++[AO.lst []]).length]:=.cons ((lF (Nat.zero_le _)).app _) (.one (lF (Nat.zero_le _)))
 obtain⟨zs,ez,r9,p9⟩:=t6 (((p6.app [.lst []]).app [.lst []]).app [.lst [.ref s6.length,.ref (s6++[AO.lst []]).length]]) (dR (Nat.zero_le _) (by show 2<=1000;omega) r8) (by show 8+2<=1000;omega) (Nat.zero_le _)
 have c9:=dz (dz c8 r8) r9
 rw[aB ez]
 have hx:∃ e,s6++[.lst []]++[.lst []]++[.lst [.ref s6.length,.ref (s6++[AO.lst []]).length]]++[.lst zs]=s++e:=by
  rw[<-Sd]
  simp only[List.append_assoc]
  exact⟨_,rfl⟩
 obtain⟨e,he⟩:=hx
 exact⟨e,he,c9,p9⟩
end
inductive De where
 | half (d:Int)|keep (x:Str) (a:Int × Int)|person (x:Str)|work (x:Str)
def dv:De->AV
 | .half d=>.tup [.str "half",.int d]
 | .keep x a=>.tup [.str "keep",.str x,kI a]
 | .person x=>.tup [.str "person",.str x]
 | .work x=>.tup [.str "work",.str x]
def jr (W:Wl):De->Str
 | .half _=>""
 | .keep x _=>if x∈W.ps then "" else "name"
 | .person x=>if x∈W.ps∨x∈W.ws then "taken" else ""
 | .work x=>if x∈W.ps∨x∈W.ws then "taken" else ""
def iH (W:Wl):De->Wl
 | .half d=>{ W with h:=d }
 | .keep x a=>if x∈W.ps then { W with kf:=λ p=>if p=x then a else W.kf p,kw:=eI W.kw (.inr x) (kI a) } else W
 | .person x=>if x∈W.ps∨x∈W.ws then W else { W with ps:=W.ps++[x] }
 | .work x=>if x∈W.ps∨x∈W.ws then W else { W with ws:=W.ws++[x] }
structure yM (n:Nat)(W:Wl):Prop where
 k0:∀ x,x∉W.ps->W.kf x=(0,1)
 kw:∀ p,(aP W.kw (.inr p)).getD (.tup [.int 0,.int 1])=kI (W.kf p)
 kf:∀ e∈W.kw,∃ a,e.2=kI a
 lp:W.ps.length<=n
 lw:W.ws.length<=n
 lk:W.kw.length<=n
theorem WQ:((Str.ofString "keep"=Str.ofString "half")=False)/\((Str.ofString "person"=Str.ofString "half")=False)/\((Str.ofString "work"=Str.ofString "half")=False)/\((Str.ofString "person"=Str.ofString "keep")=False)/\((Str.ofString "work"=Str.ofString "keep")=False)/\((Str.ofString "work"=Str.ofString "person")=False)/\
  ((Str.ofString "half"=Str.ofString "person")=False)/\((Str.ofString "keep"=Str.ofString "person")=False)/\((Str.ofString "half"=Str.ofString "work")=False)/\((Str.ofString "keep"=Str.ofString "work")=False)/\((Str.ofString "half"=Str.ofString "keep")=False):=by
 refine⟨?_,?_,?_,?_,?_,?_,?_,?_,?_,?_,?_⟩<;>exact eq_false (by decide +kernel)
theorem sY (x:Str):∀ l:List Str,Nx (.str x) (l.map AV.str)=decide (x∈l)
 | []=>rfl
 | y :: r=>by
  have ih:=sY x r
  unfold Nx Nw at ih ⊢
  rw[List.map_cons,List.map_cons,List.any_cons,ih]
  show(iG (V.str y) (V.str x) || decide (x∈r))=_
  have:iG (V.str y) (V.str x)=decide (x=y):=by
   unfold iG
   by_cases h:x=y
   ·subst h;simp
   ·have:¬ y=x:=λ e=>h e.symm
    simp[h,this]
  rw[this]
  by_cases h:x=y<;>by_cases h2:x∈r<;>simp[h,h2]
theorem BK:∀ l:List Str,(l.map AV.str).all j'=true
 | []=>rfl
 | i :: r=>by rw[List.map_cons,List.all_cons,BK r];rfl
section
variable {B:Nat}{V W:Wl}{s:S}
theorem p0 {i:Nat}{l:List Str}{x:Str}(h:ak s i=some (l.map AV.str)):qw (.str x) (.ref i) s=.ok (.bl (decide (x∈l))) s:=by
 unfold qw
 show need (ak s i) _=_
 rw[h,aj,if_pos ⟨rfl,BK l⟩,sY]
theorem AF {i:Nat}{l:List Str}{x:Str}(h:ak s i=some (l.map AV.str)):q_ (.str x) (.ref i) s=.ok (.bl (!decide (x∈l))) s:=by
 unfold q_
 show need (ak s i) _=_
 rw[h,aj,if_pos ⟨rfl,BK l⟩,sY]
theorem zR (B:Nat)(h d:Int):eI (qK B h) (.inr "half") (.int d)=qK B d:=by rfl
theorem yq {a:AV}{l:List AV}:bj (.tup (a :: l)) (.int 0) s=.ok a s:=by
 show(need (jx (a :: l) 0) λ v=>R.ok v s)=_
 rw[show jx (a :: l) 0=some a from Lq.2.2.2.2.1 a l];rfl
theorem yQ {a b:AV}{l:List AV}:bj (.tup (a :: b :: l)) (.int 1) s=.ok b s:=by
 show(need (jx (a :: b :: l) 1) λ v=>R.ok v s)=_
 rw[show jx (a :: b :: l) 1=some b from Lq.2.2.2.2.2.1 a b l];rfl
theorem O8 {a b c:AV}{l:List AV}:bj (.tup (a :: b :: c :: l)) (.int 2) s=.ok c s:=by
 show(need (jx (a :: b :: c :: l) 2) λ v=>R.ok v s)=_
 rw[show jx (a :: b :: c :: l) 2=some c from Lq.2.2.2.2.2.2.1 a b c l];rfl
structure JW (B:Nat)(s s':S):Prop where
 len:s'.length=s.length
 get:∀ i,i < B∨B+17<=i->s'[i]? = s[i]?
 cl:Cl s'
 tab:s'.any (tabAt 20 oB)=true
theorem kn (h:lb B V W s):JW B s s:=⟨rfl,λ _ _=>rfl,h.cl,h.tab⟩
theorem Fz {s:S}{i:Nat}{o o':AO}(h:s.any (tabAt 20 oB)=true) (e:s[i]? = some o)(n:tabAt 20 oB o=false):(s.set i o').any (tabAt 20 oB)=true:=by
 obtain⟨x,hx,ht⟩:=List.any_eq_true.mp h
 obtain⟨j,hj,ej⟩:=List.getElem_of_mem hx
 have qk:i≠j:=by
  rintro rfl
  rw[List.getElem?_eq_getElem hj,ej]at e
  cases e
  rw[n]at ht;cases ht
 refine List.any_eq_true.mpr ⟨x,?_,ht⟩
 have:(s.set i o')[j]? = some x:=by rw[List.getElem?_set_ne qk,List.getElem?_eq_getElem hj,ej]
 exact List.mem_of_getElem? this
theorem iu (h:lb B V W s){i:Nat}{o o':AO}(hi:i < 17)(e:(mid B V W)[i]? = some o) (n:tabAt 20 oB o=false)(l:o'.low s.length=true):JW B s (s.set (B+i) o'):=
 ⟨List.length_set,λ j hj=>List.getElem?_set_ne (by omega),h.cl.set l,Fz h.tab (h.at_.at e) n⟩
theorem jW {g:Str->AV}{b:Nat}(h:∀ x,(g x).low b=true):∀ l:List Str,aG b ((kT id g l).map (·.2))=true
 | []=>by simp[kT,aG]
 | x :: r=>by
  show aG b (g x :: (kT id g r).map (·.2))=true
  simp only[aG,h x,jW h r];rfl
theorem kC (b:Nat)(a:Int × Int):(kI a).low b=true:=by simp[kI,AV.low,aG]
theorem gY {b:Nat}:∀ {l:List AV},(∀ v∈l,v.low b=true)->aG b l=true
 | [],_=>by simp[aG]
 | v :: r,h=>by simp only[aG,h v (.head _),gY λ w hw=>h w (.tail _ hw)];rfl
theorem wW {κ:Type} [DecidableEq κ] {k:κ}{v:AV}{l:List (κ × AV)}{e:κ × AV}(h:e∈eI l k v):e.2=v∨e∈l:=by
 unfold eI at h
 split at h
 ·obtain⟨x,hx,rfl⟩:=List.mem_map.mp h
  split
  ·exact .inl rfl
  ·exact .inr hx
 ·rcases List.mem_append.mp h with h|h
  ·exact .inr h
  ·rw[List.mem_singleton.mp h];exact .inl rfl
theorem Jk (h:lb B V W s){n:Nat}(ok:yM n W)(hn:n < 60)(d:De):(fH [.ref (B+14),dv d] s).wp λ v s'=>v=.str (jr W d)/\lb B V (iH W d) s'/\JW B s s':=by
 have hL:=h.at_.len (by show 0 < 17;omega)
 have hL:B+17<=s.length:=hL
 have g1:=qq h.at_ (mR B W.h)
 have g2:=qq h.at_ (lW B W.h)
 unfold fH lT
 cases d with
 | half d=>
  unfold dv
  simp only[↓WS,↓WE,↓WV,Lq,af,UU,Nat.reduceSub,↓reduceIte,↓aB g1,↓aB g2,↓aB yq,↓aB yQ,decide_true,↓qo (jP (Gj h.at_) (by show 9 < 1000;omega)),zR]
  have lo:(AO.dK (qK B d)).low s.length=true:=by
   simp[AO.low,qK,aG,AV.low];omega
  have c:=iu h (i:=14) (o':=.dK (qK B d)) (by omega) rfl rfl lo
  exact⟨rfl,⟨h.at_.set 14 _,c.cl,c.tab⟩,c⟩
 | keep x a=>
  unfold dv
  by_cases hx:x∈W.ps
  ·have g3:=qq h.at_ (ue B W.h)
   simp only[↓WS,↓WE,↓WV,Lq,af,UU,Nat.reduceSub,↓reduceIte,↓aB g1,↓aB g2,↓aB yq,↓aB yQ,↓aB O8,WQ,decide_false,decide_true,↓aB (AF (bS h.at_)),hx,Bool.not_true,↓aB g3,↓qo (jP (Gm h.at_) (by have:=ok.lk;omega))]
   have lo:(AO.dK (eI W.kw (.inr x) (kI a))).low s.length=true:=by
    refine gY λ v hv=>?_
    obtain⟨e,he,rfl⟩:=List.mem_map.mp hv
    rcases wW he with z|z
    ·rw[z];exact kC _ _
    ·obtain⟨b,eb⟩:=ok.kf e z
     rw[eb];exact kC _ _
   have c:=iu h (i:=13) (o':=.dK (eI W.kw (.inr x) (kI a))) (by omega) rfl rfl lo
   refine⟨by simp[jr,hx],?_,c⟩
   have:iH W (.keep x a)={ W with kf:=λ p=>if p=x then a else W.kf p,kw:=eI W.kw (.inr x) (kI a) }:=if_pos hx
   rw[this]
   exact⟨h.at_.set 13 _,c.cl,c.tab⟩
  ·simp only[↓WS,↓WE,↓WV,Lq,af,UU,Nat.reduceSub,↓reduceIte,↓aB g1,↓aB g2,↓aB yq,↓aB yQ,↓aB O8,WQ,decide_false,decide_true,↓aB (AF (bS h.at_)),hx,Bool.not_false]
   have:iH W (.keep x a)=W:=if_neg hx
   rw[this]
   exact⟨by simp[jr,hx],h,kn h⟩
 | person x=>
  unfold dv
  by_cases hx:x∈W.ps∨x∈W.ws
  ·have hd:iH W (.person x)=W:=if_pos hx
   rw[hd]
   by_cases hp:x∈W.ps
   ·simp only[↓WS,↓WE,↓WV,Lq,af,UU,Nat.reduceSub,↓reduceIte,↓aB g1,↓aB g2,↓aB yq,↓aB yQ,WQ,decide_false,decide_true,↓aB (p0 (bS h.at_)),hp]
    exact⟨by simp[jr,hx],h,kn h⟩
   ·have hw:x∈W.ws:=hx.resolve_left hp
    simp only[↓WS,↓WE,↓WV,Lq,af,UU,Nat.reduceSub,↓reduceIte,↓aB g1,↓aB g2,↓aB yq,↓aB yQ,WQ,decide_false,decide_true,↓aB (p0 (bS h.at_)),hp,↓aB (kh (eV h.at_)),eN,hw]
    exact⟨by simp[jr,hx],h,kn h⟩
  ·have hp:x∉W.ps:=λ z=>hx (.inl z)
   have hw:x∉W.ws:=λ z=>hx (.inr z)
   simp only[↓WS,↓WE,↓WV,Lq,af,UU,Nat.reduceSub,↓reduceIte,↓aB g1,↓aB g2,↓aB yq,↓aB yQ,WQ,decide_false,decide_true,↓aB (p0 (bS h.at_)),hp,↓aB (kh (eV h.at_)),eN,hw,j7 (bS h.at_),↓aB (Mm.append_at (v:=.str x) (bS h.at_) (by rw[List.length_map];have:=ok.lp;omega))]
   have lo:(AO.lst (W.ps.map AV.str++[.str x])).low s.length=true:=by
    have:=cg s.length (W.ps++[x])
    rw[List.map_append]at this;exact this
   have c:=iu h (i:=8) (o':=.lst (W.ps.map AV.str++[.str x])) (by omega) rfl rfl lo
   have hd:iH W (.person x)={ W with ps:=W.ps++[x] }:=if_neg hx
   rw[hd]
   refine⟨by simp[jr,hp,hw],⟨?_,c.cl,c.tab⟩,c⟩
   have:=h.at_.set 8 (.lst (W.ps.map AV.str++[.str x]))
   rw[show(mid B V W).set 8 (.lst (W.ps.map AV.str++[.str x]))=mid B V { W with ps:=W.ps++[x] } by unfold mid;simp]at this
   exact this
 | work x=>
  unfold dv
  by_cases hx:x∈W.ps∨x∈W.ws
  ·have hd:iH W (.work x)=W:=if_pos hx
   rw[hd]
   by_cases hp:x∈W.ps
   ·simp only[↓WS,↓WE,↓WV,Lq,af,UU,Nat.reduceSub,↓reduceIte,↓aB g1,↓aB g2,↓aB yq,↓aB yQ,WQ,decide_false,decide_true,↓aB (p0 (bS h.at_)),hp]
    exact⟨by simp[jr,hx],h,kn h⟩
   ·have hw:x∈W.ws:=hx.resolve_left hp
    simp only[↓WS,↓WE,↓WV,Lq,af,UU,Nat.reduceSub,↓reduceIte,↓aB g1,↓aB g2,↓aB yq,↓aB yQ,WQ,decide_false,decide_true,↓aB (p0 (bS h.at_)),hp,↓aB (kh (eV h.at_)),eN,hw]
    exact⟨by simp[jr,hx],h,kn h⟩
  ·have hp:x∉W.ps:=λ z=>hx (.inl z)
   have hw:x∉W.ws:=λ z=>hx (.inr z)
   simp only[↓WS,↓WE,↓WV,Lq,af,UU,Nat.reduceSub,↓reduceIte,↓aB g1,↓aB g2,↓aB yq,↓aB yQ,WQ,decide_false,decide_true,↓aB (p0 (bS h.at_)),hp,↓aB (kh (eV h.at_)),eN,hw,↓qo (jP (eV h.at_) (by rw[sU];have:=ok.lw;omega)),mY (g:=λ _=>AV.tup []) hw rfl]
   have lo:(AO.dK (kT id (λ _=>.tup []) (W.ws++[x]))).low s.length=true:=jW (λ _=>by simp[AV.low,aG]) _
   have c:=iu h (i:=9) (o':=.dK (kT id (λ _=>.tup []) (W.ws++[x]))) (by omega) rfl rfl lo
   have hd:iH W (.work x)={ W with ws:=W.ws++[x] }:=if_neg hx
   rw[hd]
   exact⟨by simp[jr,hp,hw],⟨h.at_.set 9 _,c.cl,c.tab⟩,c⟩
theorem Fi {n:Nat}(ok:yM n W)(d:De):yM (n+1) (iH W d):=by
 have up:yM (n+1) W:=⟨ok.k0,ok.kw,ok.kf,by have:=ok.lp;omega,by have:=ok.lw;omega,by have:=ok.lk;omega⟩
 cases d with
 | half d=>exact⟨up.k0,up.kw,up.kf,up.lp,up.lw,up.lk⟩
 | keep x a=>
  by_cases hx:x∈W.ps
  ·have:iH W (.keep x a)={ W with kf:=λ p=>if p=x then a else W.kf p,kw:=eI W.kw (.inr x) (kI a) }:=if_pos hx
   rw[this]
   refine⟨λ y hy=>?_,λ p=>?_,λ e he=>?_,up.lp,up.lw,Nat.le_trans (uu _ _ _) (by have:=ok.lk;omega)⟩
   ·show(if y=x then a else W.kf y)=_
    rw[if_neg (λ z:y=x=>hy (by rw[z];exact hx))];exact ok.k0 y hy
   ·show(aP (eI W.kw (.inr x) (kI a)) (.inr p)).getD _=kI (if p=x then a else W.kf p)
    rw[zp]
    by_cases hp:p=x
    ·subst hp;rw[if_pos rfl,if_pos rfl];rfl
    ·rw[if_neg (λ z=>hp (Sum.inr.inj z).symm),if_neg hp];exact ok.kw p
   ·rcases wW he with z|z
    ·exact⟨a,z⟩
    ·exact ok.kf e z
  ·have:iH W (.keep x a)=W:=if_neg hx
   rw[this];exact up
 | person x=>
  by_cases hx:x∈W.ps∨x∈W.ws
  ·have hd:iH W (.person x)=W:=if_pos hx
   rw[hd];exact up
  ·have hd:iH W (.person x)={ W with ps:=W.ps++[x] }:=if_neg hx
   rw[hd]
   exact⟨λ y hy=>ok.k0 y λ z=>hy (List.mem_append_left _ z),ok.kw,ok.kf,by show(W.ps++[x]).length<=_;simp;have:=ok.lp;omega,up.lw,up.lk⟩
 | work x=>
  by_cases hx:x∈W.ps∨x∈W.ws
  ·have hd:iH W (.work x)=W:=if_pos hx
   rw[hd];exact up
  ·have hd:iH W (.work x)={ W with ws:=W.ws++[x] }:=if_neg hx
   rw[hd]
   exact⟨ok.k0,ok.kw,ok.kf,up.lp,by show(W.ws++[x]).length<=_;simp;have:=ok.lw;omega,up.lk⟩
end
end Ro
namespace Mm
open PySem L2
theorem B_ {eL:Mt}{test:Eb}{elt:Ev}{v x:AV}{r:List AV}{env e1:En}{s:S}{acc:List AV}(h1:eL v env s=.nx e1 s)(h2:test e1 s=.ok true s)(h3:elt e1 s=.ok x s):bY eL test elt [] (v :: r) env s acc=bY eL test elt [] r e1 s (acc++[x]):=by
 rw[bY,if_pos (show tm [] s from λ p hp=>nomatch hp),h1]
 dsimp only
 rw[h2]
 show(if true=true then (elt e1 s).calm.bind λ x s3=>bY eL test elt [] r e1 s3 (acc++[x]) else bY eL test elt [] r e1 s acc)=_
 rw[if_pos rfl,h3]
 rfl
theorem kj {eL:Mt}{test:Eb}{elt:Ev}{v:AV}{r:List AV}{env e1:En}{s:S}{acc:List AV}(h1:eL v env s=.nx e1 s)(h2:test e1 s=.ok false s):bY eL test elt [] (v :: r) env s acc=bY eL test elt [] r e1 s acc:=by
 rw[bY,if_pos (show tm [] s from λ p hp=>nomatch hp),h1]
 dsimp only
 rw[h2]
 show(if false=true then (elt e1 s).calm.bind λ x s3=>bY eL test elt [] r e1 s3 (acc++[x]) else bY eL test elt [] r e1 s acc)=_
 rw[if_neg (by decide)]
theorem nz {ans:Nat->Option Bool}{i c:Nat}{b:Bool}{s:S}(h:s[i]? = some (.exc c)) (e:ans c=some b):bH ans (.ref i) s=.ok (.bl b) s:=by
 unfold bH
 simp only[h,e,aj]
theorem A8 {F:List AV->S->R AV}{a b:Ev}{env:En}{s:S}{v w:AV}(h1:a env s=.ok v s)(h2:b env s=.ok w s):aD 2 F (aa a (aa b ag)) env s=F [v,w] s:=by
 unfold aD aa ag
 rw[h1,aA,h2,aA]
 rfl
end Mm
namespace Ro
open PySem L2 Mm
def De.nm:De->Prop
 | .half _=>True
 | .keep x _=>x.length<=1000
 | .person x=>x.length<=1000
 | .work x=>x.length<=1000
section
variable {B:Nat}{V W:Wl}{s:S}
theorem IQ {a:Option AV}{x y:AV}{l:List AV}{env:En}:ae bj (mv 1) (mc (.int 1)) (a :: some (.tup (x :: y :: l)) :: env) s=.ok y s:=by
 rw[ae,mw,aA]
 exact yQ
theorem B0 (h:lb B V W s){n:Nat}(ok:yM n V)(hn:n < 60)(d:De)(hd:d.nm):(jr V d=""/\∃ s',bF [.ref B,dv d] s=.ok .az s'/\lb B (iH V d) W s'/\JW B s s')∨(∃ c,(c=2/\jr V d="taken"∨c=3/\jr V d="name")/\iH V d=V/\bF [.ref B,dv d] s=.ex ⟨c,[]⟩ s):=by
 have hL:B+17<=s.length:=h.at_.len (by show 0 < 17;omega)
 have lp:=ok.lp
 have lw:=ok.lw
 cases d with
 | half d=>
  left
  refine⟨rfl,s.set B (.ins 9 (qm B d)),?_,?_⟩
  ·apply R.wp.eq
   unfold bF dE dv
   simp only[↓WS,↓WE,↓WV,Lq,af,UU,Nat.reduceSub,↓reduceIte,↓aB yq,↓aB yQ,WQ,decide_false,↓aB ((c_ (m:="put_half") (F:=bN) (mo:=mv 0) (ma:=ae bj (mv 1) (mc (.int 1))) h.at_ (by decide +kernel) iQ IQ).trans (ur h.at_ d))]
  ·have lo:(AO.ins 9 (qm B d)).low s.length=true:=by
    simp[AO.low,qm,aG,AV.low];omega
   have c:=iu h (i:=0) (o':=.ins 9 (qm B d)) (by omega) rfl rfl lo
   exact⟨⟨h.at_.set 0 _,c.cl,c.tab⟩,c⟩
 | keep x a=>
  have em:∀ F:List AV->S->R AV,aX 9 "put_keep" 2 F (mv 0) (aa (ae bj (mv 1) (mc (.int 1))) (aa (ae bj (mv 1) (mc (.int 2))) ag)) [some (.ref B),some (dv (.keep x a))] s=F [.ref B,.str x,kI a] s:=λ F=>by
   unfold aX aa ag dv
   rw[iQ,aA,kH (fw h.at_)]
   dsimp only[need]
   rw[if_pos (BM B V.h (by decide +kernel)),ae,mw,aA,show(mc (.int 1):Ev) _ _=.ok (.int 1) s from rfl,aA,yQ,aA,ae,mw,aA,show(mc (.int 2):Ev) _ _=.ok (.int 2) s from rfl,aA,O8]
   rfl
  have ec:∀ a' b' c' d':Ms,(fS (cB (ae dM (ae bj (mv 1) (mc (.int 0))) (mc (.str "person")))) a' (fS (cB (ae dM (ae bj (mv 1) (mc (.int 0))) (mc (.str "work")))) b' (fS (cB (ae dM (ae bj (mv 1) (mc (.int 0))) (mc (.str "keep")))) c' d'))) [some (.ref B),some (dv (.keep x a))] s=c' [some (.ref B),some (dv (.keep x a))] s:=λ a' b' c' d'=>by
   rw[jD (s1:=s) (R.wp.eq ?_),jD (s1:=s) (R.wp.eq ?_),oE (s1:=s) (R.wp.eq ?_)]
   all_goals (unfold dv;simp only[↓WS,↓WE,↓WV,Lq,af,UU,Nat.reduceSub,↓reduceIte,↓aB yq,WQ,decide_false,decide_true])
  by_cases hx:x∈V.ps
  ·left
   have hw:iH V (.keep x a)={ V with kf:=λ p=>if p=x then a else V.kf p,kw:=eI V.kw (.inr x) (kI a) }:=if_pos hx
   refine⟨by simp[jr,hx],s.set (B+1) (.dK (kT id (λ p=>kI (if p=x then a else V.kf p)) V.ps)),?_,?_⟩
   ·unfold bF dE
    exact qb (env:=[some (.ref B),some (dv (.keep x a))]) ((ec _ _ _ _).trans (iq ((em _).trans (sG h.at_ hx (by omega)))))
   ·have lo:(AO.dK (kT id (λ p=>kI (if p=x then a else V.kf p)) V.ps)).low s.length=true:=jW (λ _=>kC _ _) _
    have c:=iu h (i:=1) (o':=.dK (kT id (λ p=>kI (if p=x then a else V.kf p)) V.ps)) (by omega) rfl rfl lo
    rw[hw]
    exact⟨⟨h.at_.set 1 _,c.cl,c.tab⟩,c⟩
  ·right
   refine⟨3,.inr ⟨rfl,by simp[jr,hx]⟩,if_neg hx,?_⟩
   unfold bF dE
   exact i9 (env:=[some (.ref B),some (dv (.keep x a))]) ((ec _ _ _ _).trans (cN ((em _).trans (uq h.at_ hd hx))))
 | person x=>
  have ec:∀ a' b':Ms,(fS (cB (ae dM (ae bj (mv 1) (mc (.int 0))) (mc (.str "person")))) a' b') [some (.ref B),some (dv (.person x))] s=a' [some (.ref B),some (dv (.person x))] s:=λ a' b'=>by
   rw[oE (s1:=s) (R.wp.eq ?_)]
   unfold dv;simp only[↓WS,↓WE,↓WV,Lq,af,UU,Nat.reduceSub,↓reduceIte,↓aB yq,decide_true]
  have em:∀ F:List AV->S->R AV,aX 9 "add_person" 1 F (mv 0) (aa (ae bj (mv 1) (mc (.int 1))) ag) [some (.ref B),some (dv (.person x))] s=F [.ref B,.str x] s:=λ F=>c_ h.at_ (by decide +kernel) iQ IQ
  by_cases hx:x∈V.ps∨x∈V.ws
  ·right
   refine⟨2,.inl ⟨rfl,by simp[jr,hx]⟩,if_pos hx,?_⟩
   unfold bF dE
   exact i9 (env:=[some (.ref B),some (dv (.person x))]) ((ec _ _).trans (cN ((em _).trans (qH h.at_ hd hx))))
  ·left
   have hw:iH V (.person x)={ V with ps:=V.ps++[x] }:=if_neg hx
   refine⟨if_neg hx,s.set (B+1) (.dK (kT id (λ p=>kI (V.kf p)) (V.ps++[x]))),?_,?_⟩
   ·unfold bF dE
    exact qb (env:=[some (.ref B),some (dv (.person x))]) ((ec _ _).trans (iq ((em _).trans (qi h.at_ hx (by omega) (ok.k0 x λ z=>hx (.inl z))))))
   ·have lo:(AO.dK (kT id (λ p=>kI (V.kf p)) (V.ps++[x]))).low s.length=true:=jW (λ _=>kC _ _) _
    have c:=iu h (i:=1) (o':=.dK (kT id (λ p=>kI (V.kf p)) (V.ps++[x]))) (by omega) rfl rfl lo
    rw[hw]
    exact⟨⟨h.at_.set 1 _,c.cl,c.tab⟩,c⟩
 | work x=>
  have ec:∀ a' b' c':Ms,(fS (cB (ae dM (ae bj (mv 1) (mc (.int 0))) (mc (.str "person")))) a' (fS (cB (ae dM (ae bj (mv 1) (mc (.int 0))) (mc (.str "work")))) b' c')) [some (.ref B),some (dv (.work x))] s=b' [some (.ref B),some (dv (.work x))] s:=λ a' b' c'=>by
   rw[jD (s1:=s) (R.wp.eq ?_),oE (s1:=s) (R.wp.eq ?_)]
   all_goals (unfold dv;simp only[↓WS,↓WE,↓WV,Lq,af,UU,Nat.reduceSub,↓reduceIte,↓aB yq,WQ,decide_false,decide_true])
  have em:∀ F:List AV->S->R AV,aX 9 "add_work" 1 F (mv 0) (aa (ae bj (mv 1) (mc (.int 1))) ag) [some (.ref B),some (dv (.work x))] s=F [.ref B,.str x] s:=λ F=>c_ h.at_ (by decide +kernel) iQ IQ
  by_cases hx:x∈V.ps∨x∈V.ws
  ·right
   refine⟨2,.inl ⟨rfl,by simp[jr,hx]⟩,if_pos hx,?_⟩
   unfold bF dE
   exact i9 (env:=[some (.ref B),some (dv (.work x))]) ((ec _ _ _).trans (cN ((em _).trans (vg h.at_ hd hx))))
  ·left
   have hw:iH V (.work x)={ V with ws:=V.ws++[x] }:=if_neg hx
   refine⟨if_neg hx,s.set (B+2) (.dK (kT id (λ _=>.tup []) (V.ws++[x]))),?_,?_⟩
   ·unfold bF dE
    exact qb (env:=[some (.ref B),some (dv (.work x))]) ((ec _ _ _).trans (iq ((em _).trans (tZ h.at_ hx (by omega)))))
   ·have lo:(AO.dK (kT id (λ _=>.tup []) (V.ws++[x]))).low s.length=true:=jW (λ _=>by simp[AV.low,aG]) _
    have c:=iu h (i:=2) (o':=.dK (kT id (λ _=>.tup []) (V.ws++[x]))) (by omega) rfl rfl lo
    rw[hw]
    exact⟨⟨h.at_.set 2 _,c.cl,c.tab⟩,c⟩
end
structure Cw (B:Nat)(s s':S):Prop where
 len:s.length<=s'.length
 get:∀ i,i < s.length->i < B∨B+17<=i->s'[i]? = s[i]?
theorem JW.a {B:Nat}{s s':S}(h:JW B s s'):Cw B s s':=⟨by rw[h.len];exact Nat.le_refl _,λ i _ k=>h.get i k⟩
theorem Cw.app {B:Nat}{s s':S}(h:Cw B s s')(e:S):Cw B s (s'++e):=⟨by have:=h.len;simp;omega,λ i hi k=>by rw[List.getElem?_append_left (by have:=h.len;omega)];exact h.get i hi k⟩
theorem Cw.refl (B:Nat)(s:S):Cw B s s:=⟨Nat.le_refl _,λ _ _ _=>rfl⟩
def Nj:List AV:=[.str "taken",.str "name",.str "much",.str "rate",.str "left"]
noncomputable abbrev N0:Ev:=BD (ae bj (aR (dc (aa (mc (.str "taken")) (aa (mc (.str "name")) (aa (mc (.str "much")) (aa (mc (.str "rate")) (aa (mc (.str "left")) ag))))))) (mv 0))
theorem RA {a b c d e:AV}:([a,b,c,d,e].length<=sizeLine)=True:=eq_true (xT (by show 5<=1000;omega))
section
variable {B:Nat}{V W:Wl}{s:S}
theorem FJ {k:Nat}{x:Str}{env:En}(e:Nj[k]? = some (.str x)):N0 (some (.int k) :: env) s=.ok (.str x) s:=by
 apply R.wp.eq
 have hk:k < 5:=(List.getElem?_eq_some_iff.mp e).1
 have ea:jx Nj (k:Int)=some (.str x):=jw e
 simp only[↓WS,↓WE,↓WV,Lq,af,UU,Nat.reduceSub,↓reduceIte,RA]
 show(need (ak (s++[.lst Nj]) s.length) λ xs=>need (jx xs k) λ v=>R.ok v (s++[.lst Nj])).wp _
 rw[aM,aj,ea,aj,nN]
 exact⟨⟨List.take_left,by simp[AV.low]⟩,rfl⟩
theorem fM {j k:Nat}{b:Bool}{xs:List AV}{env:En}(h:ak s j=some xs)(e:xs[k]? = some (.bl b)):cT (ae bj (mv 1) (mv 0)) (some (.int k) :: some (.ref j) :: env) s=.ok b s:=by
 apply R.wp.eq
 have ea:jx xs (k:Int)=some (.bl b):=jw e
 walk_at "w"
 rw[h,aj,ea,aj,nN]
 exact⟨rfl,rfl⟩
theorem zj {j:Nat}{c:Nat}{x:Str}(hc:c=2/\x="taken"∨c=3/\x="name")(h:ak s j=some [.bl (ai 2 c),.bl (ai 3 c),.bl (ai 4 c),.bl (ai 5 c),.bl (ai 6 c)]) :
  bY (gN 0) (cT (ae bj (mv 1) (mv 0))) N0 [] (kM 0 5) [none,some (.ref j)] s []=.ok [.str x] s:=by
 have r5:kM 0 5=[.int (0:Nat),.int (1:Nat),.int (2:Nat),.int (3:Nat),.int (4:Nat)]:=rfl
 rw[r5]
 rcases hc with⟨rfl,rfl⟩|⟨rfl,rfl⟩
 ·rw[B_ rfl (fM (k:=0) h rfl) (FJ (k:=0) rfl),kj rfl (fM (k:=1) h rfl),kj rfl (fM (k:=2) h rfl),kj rfl (fM (k:=3) h rfl),kj rfl (fM (k:=4) h rfl),ki]
  rfl
 ·rw[kj rfl (fM (k:=0) h rfl),B_ rfl (fM (k:=1) h rfl) (FJ (k:=1) rfl),kj rfl (fM (k:=2) h rfl),kj rfl (fM (k:=3) h rfl),kj rfl (fM (k:=4) h rfl),ki]
  rfl
theorem Cj (c:Cl s){bs:List Bool}:Cl (s++[.lst (bs.map AV.bl)]):=c.add (by
 simp only[List.all_cons,List.all_nil,AO.low,Bool.and_true]
 exact gY λ v hv=>by obtain⟨b,_,rfl⟩:=List.mem_map.mp hv;simp[AV.low])
theorem CY {c:Nat}{x:Str}(hc:c=2/\x="taken"∨c=3/\x="name"){i:Nat}(h:s[i]? = some (.exc c)) (cl:Cl s) :
    ((aC (fS (cB (ae jR (mv 2) (mc .az))) (bh (mc (.str ""))) bR)
 (aC (cw 3 (aR (dc (aa (cA (bH (jy 2)) (mv 2)) (aa (cA (bH (jy 3)) (mv 2)) (aa (cA (bH (jy 4)) (mv 2)) ag))))))
 (aC (cw 3 (ae cZ (mv 3) (aR (dc (aa (cA (bH (jy 5)) (mv 2)) (aa (cA (bH (jy 6)) (mv 2)) ag))))))
 (aC (cw 4 (aR (cj [("_law_k",none),("_law_told",some 3)] (qr (aa (mc (.int 5)) ag)) (gN 0) (cT (ae bj (mv 1) (mv 0))) N0)))
 (aC (fS (Cf (cB (ae ou (ua hX (aa (mv 4) ag)) (mc (.int 1)))) (Cf (cT (cA (bH (qG [1,8,7])) (mv 2))) (oG (cT (cA (bH yL) (mv 2)))))) (bh (mc (.str "many"))) bR)
 (bh (ae bj (mv 4) (mc (.int 0))))))))) [none,none,some (.ref i),none,none,none] s).wp (λ _ _=>False) λ v s'=>v=.str x/\∃ e,s'=s++e/\Cl s':=by
  have hi:i < s.length:=(List.getElem?_eq_some_iff.mp h).1
  have c9:c < 9:=by rcases hc with⟨rfl,_⟩|⟨rfl,_⟩<;>omega
  have q:∀ (j:Nat) (e:S),bH (jy j) (.ref i) (s++e)=.ok (.bl (ai j c)) (s++e):=λ j e=>nz (by rw[List.getElem?_append_left hi];exact h) (if_pos c9)
  have q0:∀ (j:Nat),bH (jy j) (.ref i) s=.ok (.bl (ai j c)) s:=λ j=>nz h (if_pos c9)
  have qT:∀ (e:S),bH (qG [1,8,7]) (.ref i) (s++e)=.ok (.bl false) (s++e):=λ e=>nz (by rw[List.getElem?_append_left hi];exact h) (by rcases hc with⟨rfl,_⟩|⟨rfl,_⟩<;>rfl)
  have qV:∀ (e:S),bH yL (.ref i) (s++e)=.ok (.bl true) (s++e):=λ e=>nz (by rw[List.getElem?_append_left hi];exact h) (if_pos c9)
  simp only[↓WS,↓WE,↓WV,Lq,af,UU,Nat.reduceSub,↓reduceIte,h_,↓aB (q0 _),↓aB (q _ _),↓lX]
  have c1:Cl (s++[.lst [.bl (ai 2 c),.bl (ai 3 c),.bl (ai 4 c)]]):=Cj (bs:=[ai 2 c,ai 3 c,ai 4 c]) cl
  have c2:Cl (s++[.lst [.bl (ai 2 c),.bl (ai 3 c),.bl (ai 4 c)]]++[.lst [.bl (ai 5 c),.bl (ai 6 c)]]):=Cj (bs:=[ai 5 c,ai 6 c]) c1
  have ea:=Ca (st:=s++[.lst [.bl (ai 2 c),.bl (ai 3 c),.bl (ai 4 c)]]++[.lst [.bl (ai 5 c),.bl (ai 6 c)]]) (aq (aM s [.bl (ai 2 c),.bl (ai 3 c),.bl (ai 4 c)])) (aM _ [.bl (ai 5 c),.bl (ai 6 c)]) (xT (by show 3+2<=1000;omega))
  rw[aB ea]
  have c3:Cl (s++[.lst [.bl (ai 2 c),.bl (ai 3 c),.bl (ai 4 c)]]++[.lst [.bl (ai 5 c),.bl (ai 6 c)]]++[.lst ([.bl (ai 2 c),.bl (ai 3 c),.bl (ai 4 c)]++[.bl (ai 5 c),.bl (ai 6 c)])]):=Cj (bs:=[ai 2 c,ai 3 c,ai 4 c,ai 5 c,ai 6 c]) c2
  have hl:=aM (s++[.lst [.bl (ai 2 c),.bl (ai 3 c),.bl (ai 4 c)]]++[.lst [.bl (ai 5 c),.bl (ai 6 c)]]) ([.bl (ai 2 c),.bl (ai 3 c),.bl (ai 4 c)]++[.bl (ai 5 c),.bl (ai 6 c)])
  simp only[List.append_assoc]at c3 hl ⊢
  generalize ([AO.lst [.bl (ai 2 c),.bl (ai 3 c),.bl (ai 4 c)]]++([AO.lst [.bl (ai 5 c),.bl (ai 6 c)]]++[AO.lst ([.bl (ai 2 c),.bl (ai 3 c),.bl (ai 4 c)]++[.bl (ai 5 c),.bl (ai 6 c)])]))=e3 at *
  generalize (s++([AO.lst [.bl (ai 2 c),.bl (ai 3 c),.bl (ai 4 c)]]++[AO.lst [.bl (ai 5 c),.bl (ai 6 c)]])).length=j3 at *
  refine⟨⟨by decide,by decide⟩,xT (by simp[kM]),?_⟩
  rw[show(5:Int).toNat=5 from rfl,aB (zj hc hl)]
  have l4:=aM (s++e3) [.str x]
  simp only[↓WS,↓WE,↓WV,Lq,af,UU,Nat.reduceSub,↓reduceIte,↓aB (nt l4),List.append_assoc,↓aB (qT _),↓aB (qV _),fj,Bool.not_true]
  have l5:ak (s++(e3++[.lst [.str x]])) (s++e3).length=some [.str x]:=by rw[<-List.append_assoc];exact l4
  simp only[List.length_cons,List.length_nil,Nat.zero_add,Int.natCast_one]
  rw[if_neg (by simp),if_neg (by decide),l5,aj,show jx [AV.str x] 0=some (.str x) from Lq.2.2.2.2.1 _ _,aj,nN]
  refine⟨rfl,_,rfl,?_⟩
  rw[<-List.append_assoc]
  exact dz (b:=0) c3 (.one (zL _ _))
theorem Ml {n:Nat}{b:Ms}{v w:AV}{s:S}{Q:AV->S->Prop}(h:(b (some v :: some w :: List.replicate (n - 2) none) s).wp (λ _ s1=>Q .az s1) Q):(eB n b [v,w] s).wp Q:=by rw[WS.2.2.2.2.2.2.2.2.2.2.2.2.2.2.2.2.1];exact h
theorem Mj {n:Nat}{b:Ms}{v w x:AV}{s:S}{Q:AV->S->Prop}(h:(b (some v :: some w :: some x :: List.replicate (n - 3) none) s).wp (λ _ s1=>Q .az s1) Q):(eB n b [v,w,x] s).wp Q:=by rw[WS.2.2.2.2.2.2.2.2.2.2.2.2.2.2.2.2.2];exact h
theorem l7 {i:Nat}{m:Ev}{b:Ms}{env:En}{s:S}{v:AV}{N:En->S->Prop}{T:AV->S->Prop}(e:m env s=.ok v s)(h:(b (env.set i (some v)) s).wp N T):(aC (cw i m) b env s).wp N T:=by
 rw[WS.1,WS.2.1,aB e];exact h
theorem zt {n i:Nat}{sub:Nat->Bool}{b h r:Ms}{env e2:En}{s s1 s2:S}{c:AX}{N:En->S->Prop}{T:AV->S->Prop}(hb:b env s=.ex c s1)(hs:sub c.cls=true)(eh:h ((List.replicate n none).set i (some (.ref s1.length))) (s1++[.exc c.cls])=.nx e2 s2) (hr:(r (e2.set i none) s2).wp N T):(aC (mX n i sub b h) r env s).wp N T:=by
 rw[WS.1,xO hb hs,eh];exact hr
theorem zr {n i:Nat}{sub:Nat->Bool}{b h r:Ms}{env e2:En}{s s1:S}{N:En->S->Prop}{T:AV->S->Prop}(hb:b env s=.nx e2 s1)(hr:(r e2 s1).wp N T):(aC (mX n i sub b h) r env s).wp N T:=by
 rw[WS.1,xN hb];exact hr
theorem vD (h:lb B V W s){n:Nat}(ok:yM n V)(hn:n < 60)(d:De)(hd:d.nm):(cG [.ref B,dv d] s).wp λ v s'=>v=.str (jr V d)/\lb B (iH V d) W s'/\Cw B s s':=by
 unfold cG g9
 rcases B0 h ok hn d hd with⟨er,s',e1,b1,k1⟩|⟨c,hc,hw,e1⟩
 ·have et:bI (aD 2 bF (aa (mv 0) (aa (mv 1) ag))) [some (.ref B),some (dv d),some .az,none,none,none] s=.nx [some (.ref B),some (dv d),some .az,none,none,none] s':=iq ((A8 iQ mw).trans e1)
  refine Ml (l7 rfl (zr et ?_))
  simp only[↓WS,↓WE,↓WV,Lq,af,UU,Nat.reduceSub,↓reduceIte,h_]
  exact⟨by rw[er],b1,k1.a⟩
 ·have et:bI (aD 2 bF (aa (mv 0) (aa (mv 1) ag))) [some (.ref B),some (dv d),some .az,none,none,none] s=.ex ⟨c,[]⟩ s:=cN ((A8 iQ mw).trans e1)
  have c9:(λ c=>decide (c < 9) && ai 0 c) (⟨c,[]⟩:AX).cls=true:=by rcases hc with⟨rfl,_⟩|⟨rfl,_⟩<;>rfl
  obtain⟨x,hx⟩:∃ x,x=jr V d:=⟨_,rfl⟩
  rw[<-hx]at hc
  rw[<-hx,hw]
  have c1:Cl (s++[.exc c]):=h.cl.add (by simp[AO.low])
  have hw:=CY (x:=x) hc (s:=s++[.exc c]) (i:=s.length) (by rw[List.getElem?_append_right (Nat.le_refl _)];simp) c1
  refine Ml (l7 rfl (zt et c9 rfl ?_))
  refine RS.wp.mono hw (λ _ _ f=>f.elim) ?_
  rintro v s' ⟨rfl,e,rfl,c2⟩
  refine⟨rfl,?_,?_⟩
  ·rw[List.append_assoc]at c2 ⊢;exact h.app c2
  ·exact((Cw.refl B s).app _).app _
def there (V:Wl)(k:Nat)(x:Str):Prop:=if k=0∨k=2 then x∈V.ws else x∈V.ps
theorem yK {i:Nat}(h:s[i]? = some (.exc 3)):((aC (fS (cB (ae jR (mv 3) (mc .az))) (bh (mc (.bl false))) bR)
 (bh (sS (cA (bH (jy 3)) (mv 3)) (cA qZ (cA (bH (qG [1,8,7,6,5])) (mv 3)))))) [none,none,none,some (.ref i),none] s).wp (λ _ _=>False) λ v s'=>v=.bl true/\s'=s:=by
  simp only[↓WS,↓WE,↓WV,Lq,af,UU,Nat.reduceSub,↓reduceIte,h_,↓aB (nz (ans:=jy 3) (b:=true) h rfl),↓aB (nz (ans:=qG [1,8,7,6,5]) (b:=false) h rfl),Bool.not_false]
theorem vf (h:lb B V W s){x:Str}(hx:x.length<=1000){k:Nat}(hk:k < 4) [Decidable (there V k x)]:(b9 [.ref B,.int k,.str x] s).wp λ v s'=>v=.bl (!decide (there V k x))/\∃ e,s'=s++e/\Cl s':=by
  have c1:Cl (s++[.exc 3]):=h.cl.add (by simp[AO.low])
  have c2:=pP h.cl
  unfold b9 gq
  have fin:∀ (b:Ms) (env:En),env=[some (.ref B),some (.int k),some (.str x),some .az,none]->(there V k x->∃ e,b env s=.nx env (s++e)/\Cl (s++e))->(¬ there V k x->b env s=.ex ⟨3,[]⟩ s)->(eB 5 (aC (cw 3 (mc .az)) (aC (mX 5 4 (λ c=>decide (c < 9) && ai 0 c) b (cw 3 (mv 4))) (aC (fS (cB (ae jR (mv 3) (mc .az))) (bh (mc (.bl false))) bR)
 (bh (sS (cA (bH (jy 3)) (mv 3)) (cA qZ (cA (bH (qG [1,8,7,6,5])) (mv 3)))))))) [.ref B,.int k,.str x] s).wp λ v s'=>v=.bl (!decide (there V k x))/\∃ e,s'=s++e/\Cl s':=by
    rintro b env rfl h1 h2
    by_cases ht:there V k x
    · obtain⟨e,eb,ce⟩:=h1 ht
      refine Mj (l7 rfl (zr eb ?_))
      simp only[↓WS,↓WE,↓WV,Lq,af,UU,Nat.reduceSub,↓reduceIte,h_]
      exact⟨by simp[ht],e,rfl,ce⟩
    · refine Mj (l7 rfl (zt (h2 ht) rfl rfl ?_))
      have hw:=yK (s:=s++[AO.exc 3]) (i:=s.length) (by rw[List.getElem?_append_right (Nat.le_refl _)];simp)
      refine RS.wp.mono hw (λ _ _ f=>f.elim) ?_
      rintro v s' ⟨rfl,rfl⟩
      exact⟨by simp[ht],_,rfl,c1⟩
  have sR:∀ (F:List AV->S->R AV) (m:Str),((["keeps","rows","hands","makers","rates","half","money","debts"]:List Str).any λ f=>m == f)=false->aX 9 m 1 F (mv 0) (aa (mv 2) ag) [some (.ref B),some (.int k),some (.str x),some .az,none] s=F [.ref B,.str x] s:=λ F m hm=>c_ h.at_ hm iQ rfl
  have ec:∀ j:Int,cB (ae dM (mv 1) (mc (.int j))) [some (.ref B),some (.int k),some (.str x),some .az,none] s=.ok (decide ((k:Int)=j)) s:=λ j=>by
    apply R.wp.eq
    walk_at "w"
  have NF:k=0∨k=1∨k=2∨k=3:=by omega
  refine fin _ _ rfl ?_ ?_
  · intro ht
    rcases NF with rfl|rfl|rfl|rfl
    · exact⟨[],by rw[List.append_nil];exact(oE (ec 0)).trans (iq ((sR _ _ (by decide +kernel)).trans (nS h.at_ ht))),by rw[List.append_nil];exact h.cl⟩
    · exact⟨[.lst []],(jD (ec 0)).trans ((oE (ec 1)).trans (iq ((sR _ _ (by decide +kernel)).trans (mF h.at_ ht)))),c2⟩
    · exact⟨[],by rw[List.append_nil];exact(jD (ec 0)).trans ((jD (ec 1)).trans ((oE (ec 2)).trans (iq ((sR _ _ (by decide +kernel)).trans (mC h.at_ ht))))),by rw[List.append_nil];exact h.cl⟩
    · exact⟨[],by rw[List.append_nil];exact(jD (ec 0)).trans ((jD (ec 1)).trans ((jD (ec 2)).trans (iq ((sR _ _ (by decide +kernel)).trans (nY h.at_ ht))))),by rw[List.append_nil];exact h.cl⟩
  · intro ht
    rcases NF with rfl|rfl|rfl|rfl
    · exact(oE (ec 0)).trans (cN ((sR _ _ (by decide +kernel)).trans (vC h.at_ hx ht)))
    · exact(jD (ec 0)).trans ((oE (ec 1)).trans (cN ((sR _ _ (by decide +kernel)).trans (uP h.at_ hx ht))))
    · exact(jD (ec 0)).trans ((jD (ec 1)).trans ((oE (ec 2)).trans (cN ((sR _ _ (by decide +kernel)).trans (uK h.at_ hx ht)))))
    · exact(jD (ec 0)).trans ((jD (ec 1)).trans ((jD (ec 2)).trans (cN ((sR _ _ (by decide +kernel)).trans (vU h.at_ hx ht)))))
end
end Ro
namespace Mm
open PySem L2
mutual
theorem Rp.zero {b:Nat}{s:S}:∀ {d:Dt}{v:AV},Rp b s d v->Rp 0 s d v
 | .az,_,h=>by unfold Rp at h ⊢;exact h
 | .bl _,_,h=>by unfold Rp at h;exact h.elim
 | .int _,_,h=>by unfold Rp at h ⊢;exact h
 | .str _,_,h=>by unfold Rp at h ⊢;exact h
 | .tup l,_,h=>by
  unfold Rp at h ⊢
  obtain⟨xs,e,hl,h⟩:=h
  exact⟨xs,e,hl,cH.zero h⟩
 | .lst l,_,h=>by
  unfold Rp at h ⊢
  obtain⟨i,xs,e,_,h1,hl,h⟩:=h
  exact⟨i,xs,e,Nat.zero_le _,h1,hl,cH.zero h⟩
theorem cH.zero {b:Nat}{s:S}:∀ {l:List Dt}{xs:List AV},cH b s l xs->cH 0 s l xs
 | [],_,h=>by unfold cH at h ⊢;exact h
 | _ :: _,_,h=>by
  unfold cH at h ⊢
  obtain⟨x,r,e,h1,h2⟩:=h
  exact⟨x,r,e,Rp.zero h1,cH.zero h2⟩
end
theorem Gi (a b:Bool)(s:S)(Q:AV->S->Prop):(dM (.bl a) (.bl b) s).wp Q=Q (.bl (decide (a=b))) s:=rfl
theorem mz {b:Nat}:∀ {l:List AV}{v:AV},aG b l=true->v∈l->v.low b=true
 | [],_,_,h=>nomatch h
 | x :: r,v,h,hv=>by
  simp only[aG,Bool.and_eq_true]at h
  rcases List.mem_cons.mp hv with rfl|hv
  ·exact h.1
  ·exact mz h.2 hv
end Mm
namespace Ro
open PySem L2 Mm
section
variable {B:Nat}{V W:Wl}{s:S}
theorem vW (h:At B (mid B V W) s) {x:Str}:pG (.str x) (.ref (B+8)) s=.ok (.bl (decide (x∈W.ps))) s:=by
 have e:gC s (B+8)=none:=by
  have:=aw (bS h)
  unfold gC;rw[this]
 show(if (gC s (B+8)).isSome=true then _ else qw (.str x) (.ref (B+8)) s)=_
 rw[e,if_neg (by decide)]
 exact p0 (bS h)
theorem yu (h:At B (mid B V W) s) {x:Str}:pG (.str x) (.ref (B+9)) s=.ok (.bl (decide (x∈W.ws))) s:=by
 show(if (gC s (B+9)).isSome=true then jT (.str x) (.ref (B+9)) s else _)=_
 rw[eV h]
 exact(kh (eV h)).trans (by rw[eN])
theorem GA {k:Nat}(hk:k < 4):qw (.int (k:Int)) (.tup [.int 0,.int 2]) s=.ok (.bl (decide (k=0∨k=2))) s:=by
 have NF:k=0∨k=1∨k=2∨k=3:=by omega
 rcases NF with rfl|rfl|rfl|rfl<;>rfl
theorem Fy (h:lb B V W s)(hp:V.ps=W.ps)(hw:V.ws=W.ws){j:Nat}{names:List Str}(hl:ak s j=some (names.map AV.str)) (hn:∀ x∈names,x.length<=1000):(aY [.ref B,.ref (B+14),.ref j] s).wp λ v s'=>v=.bl true/\∃ e,s'=s++e/\Cl s':=by
 classical
 unfold aY eW
 simp only[↓WS,↓WE,↓WV,Lq,af,UU,Nat.reduceSub,↓reduceIte,↓aB (jI hl)]
 refine nG (λ xs env st=>∃ (r:List Str) (x3 x4 x5:Option AV) (e:S),(∀ x∈r,x∈names)/\xs=r.map AV.str/\env=[some (.ref B),some (.ref (B+14)),some (.ref j),x3,x4,x5]/\st=s++e/\Cl st) ?_ ?_ ?_ _ _ _ ⟨names,none,none,none,[],λ _ h=>h,rfl,rfl,by simp,h.cl⟩
 ·rintro _ _ st ⟨_,_,_,_,e,_,_,_,rfl,_⟩ p hp
  rw[List.mem_singleton.mp hp]
  exact aq hl
 ·rintro env st ⟨_,_,_,_,e,_,_,_,rfl,c⟩
  exact⟨e,rfl,c⟩
 ·rintro v r env st ⟨r',x3,x4,x5,e,hr,ex,rfl,rfl,c⟩
  cases r' with
  | nil=>cases ex
  | cons x r'=>
   cases ex
   have hx:=hn x (hr x (.head _))
   simp only[↓WS,↓WE,↓WV,Lq,af,UU,Nat.reduceSub,↓reduceIte,↓lX]
   refine⟨⟨by decide,by decide⟩,?_⟩
   rw[show kM 0 (4:Int).toNat=(List.range 4).map λ(k:Nat)=>AV.int (0+k) from rfl]
   refine nG (λ xs env st=>∃ (q:List Nat) (x4 x5:Option AV) (e:S),(∀ k∈q,k < 4)/\(xs=q.map λ(k:Nat)=>AV.int (0+k))/\env=[some (.ref B),some (.ref (B+14)),some (.ref j),some (.str x),x4,x5]/\st=s++e/\Cl st) ?_ ?_ ?_ _ _ _ ⟨List.range 4,_,_,e,λ k hk=>List.mem_range.mp hk,rfl,rfl,rfl,c⟩
   ·rintro _ _ st _ p hp;cases hp
   ·rintro env st ⟨_,_,_,e,_,_,rfl,rfl,c⟩
    exact⟨r',_,_,_,e,λ y hy=>hr y (.tail _ hy),rfl,rfl,rfl,c⟩
   ·rintro v Tp env st ⟨q,x4,x5,e,hq,eq,rfl,rfl,c⟩
    cases q with
    | nil=>cases eq
    | cons k q=>
     cases eq
     have hk:=hq k (.head _)
     have b:=h.app c
     have e0:(λ(k:Nat)=>AV.int (0+(k:Int))) k=.int (k:Int):=by show AV.int (0+(k:Int))=_;rw[Int.zero_add]
     rw[e0]
     simp only[↓WS,↓WE,↓WV,Lq,af,UU,Nat.reduceSub,↓reduceIte,↓aB (GA hk)]
     by_cases F0:k=0∨k=2
     ·simp only[↓WS,↓WE,↓WV,Lq,af,UU,Nat.reduceSub,↓reduceIte,F0,decide_true,↓aB (qq b.at_ (lW B W.h))]
      refine(vf b hx hk).mono ?_
      rintro _ s2 ⟨rfl,e2,rfl,c2⟩
      have b2:=b.app c2
      rw[aB (yu b2.at_)]
      have ht:there V k x=(x∈W.ws):=by unfold there;rw[if_pos F0,hw]
      simp only[Gi]
      rw[if_neg (by simp only[ht,decide_eq_true_eq];by_cases z:x∈W.ws<;>simp[z])]
      exact⟨q,_,_,e++e2,λ k' h'=>hq k' (.tail _ h'),rfl,rfl,by simp,c2⟩
     ·simp only[↓WS,↓WE,↓WV,Lq,af,UU,Nat.reduceSub,↓reduceIte,F0,decide_false,↓aB (qq b.at_ (mR B W.h))]
      refine(vf b hx hk).mono ?_
      rintro _ s2 ⟨rfl,e2,rfl,c2⟩
      have b2:=b.app c2
      rw[aB (vW b2.at_)]
      have ht:there V k x=(x∈W.ps):=by unfold there;rw[if_neg F0,hp]
      simp only[Gi]
      rw[if_neg (by simp only[ht,decide_eq_true_eq];by_cases z:x∈W.ps<;>simp[z])]
      exact⟨q,_,_,e++e2,λ k' h'=>hq k' (.tail _ h'),rfl,rfl,by simp,c2⟩
structure Sp (b f:Nat)(s:S)(items:List AV)(k:Nat)(st:S):Prop where
 pre:st.take b=s
 hf:ak st f=some items
 nl:∀ i,b<=i->i < f->∃ xs,ak st i=some xs/\xs.length<=1000+k/\(∀ v∈xs,nice b v=true)/\aG i xs=true
theorem Sp.set {b f i k:Nat}{s st:S}{items xs:List AV}(h:Sp b f s items k st)(hi:b<=i)(hf:i < f)(l:xs.length<=1000+(k+1)) (hn:∀ v∈xs,nice b v=true)(hl:aG i xs=true):Sp b f s items (k+1) (st.set i (.lst xs)):=by
 obtain⟨ys,e0,_⟩:=h.nl i hi hf
 refine⟨by rw[List.take_set_of_le hi];exact h.pre,pT (by omega) h.hf _,λ j hj Sv=>?_⟩
 by_cases e:j=i
 ·subst e;exact⟨xs,my e0,l,hn,hl⟩
 ·obtain⟨zs,e1,l1,n1,q1⟩:=h.nl j hj Sv
  exact⟨zs,pT e e1 _,by omega,n1,q1⟩
theorem sW {i:Nat}{xs:List AV}{st:S}(h:ak st i=some xs):dH "list" (.ref i) st=.ok (.bl true) st:=by rw[sX h];rfl
theorem wY {b:Nat}:∀ {l:List AV},aG b l=true->aG b l.reverse=true:=λ {l} h=>gY λ v hv=>mz h (List.mem_reverse.mp hv)
theorem uH {b:Nat}{l:List AV}{v:AV}(h:aG b l=true)(k:v.low b=true):aG b (l++[v])=true:=gY λ w hw=>by
 rcases List.mem_append.mp hw with hw|hw
 ·exact mz h hw
 ·rw[List.mem_singleton.mp hw];exact k
theorem G0 {i:Nat}{xs:List AV}{st:S}(h:ak st i=some xs):iV (.ref i) [] st=.ok .az (st.set i (.lst xs.reverse)):=by
 show(need (ak st i) λ xs=>R.ok AV.az (st.set i (.lst xs.reverse)))=_
 rw[h];rfl
theorem Cq {i:Nat}{xs:List AV}{v:AV}{st:S}(h:ak st i=some xs)(l:xs.length<=9000):bP (.ref i) [v] st=.ok .az (st.set i (.lst (xs++[v]))):=by
 unfold bP
 simp only[h,aj]
 rw[if_pos (by rw[sizeLine_eq];omega)]
def isRef:AV->Bool
 | .ref _=>true
 | _=>false
theorem Bm {v:AV}{b:Nat}{st:S}(n:nice b v=true)(h:isRef v=false):dH "list" v st=.ok (.bl false) st:=by
 cases v<;>first|rfl|(cases h;done)|(cases n;done)
theorem HM {v:AV}{b f k:Nat}{s st:S}{items:List AV}(h:Sp b f s items k st)(n:nice b v=true)(l:v.low f=true):∃ t,ra v (.str "more") st=.ok (.bl t) st:=by
 cases v with
 | ref i=>
  have hi:b<=i:=of_decide_eq_true n
  have hf:i < f:=by simpa[AV.low]using l
  obtain⟨xs,e,_⟩:=h.nl i hi hf
  refine⟨true,?_⟩
  show(need (ak st i) λ _=>R.ok (AV.bl true) st)=_
  rw[e];rfl
 | sq xs=>cases n
 | tup xs=>exact⟨true,rfl⟩
 | az=>exact⟨true,rfl⟩
 | bl x=>exact⟨true,rfl⟩
 | int x=>exact⟨true,rfl⟩
 | str x=>exact⟨!decide (x="more"),rfl⟩
theorem xX {b f:Nat}{st:S}{items:List AV}(h:Sp b f s items 0 st)(hn:∀ v∈items,nice b v=true)(hl:aG f items=true)(hz:items.length<=1000):(cy [.ref f] st).wp λ v s'=>v=.az/\s'.take b=s:=by
 unfold cy iM
 simp only[↓WS,↓WE,↓WV,Lq,af,UU,Nat.reduceSub,↓reduceIte,↓aB (jI h.hf)]
 refine nG (λ xs env st=>∃ (x1:Option AV) (k:Nat),env=[some (.ref f),x1]/\(∀ v∈xs,v∈items)/\k+3 * xs.length<=3000/\Sp b f s items k st) ?_ ?_ ?_ _ _ _ ⟨none,0,rfl,λ _ h=>h,by omega,h⟩
 ·rintro _ _ st ⟨_,_,_,_,_,h⟩ p hp
  rw[List.mem_singleton.mp hp]
  exact h.hf
 ·rintro env st ⟨_,_,_,_,_,h⟩
  exact h.pre
 ·rintro v r env st ⟨x1,k,rfl,hr,hk,h⟩
  have hv:=hr v (.head _)
  have nv:=hn v hv
  have lv:=mz hl hv
  have TM:k+3 * (r.length+1)<=3000:=hk
  have fin:∀ {k':Nat}{om:S},k'<=k+3->Sp b f s items k' om->∃ (x1:Option AV) (k:Nat),[some (AV.ref f),some v]=[some (.ref f),x1]/\(∀ v∈r,v∈items)/\k+3 * r.length<=3000/\Sp b f s items k om:=λ {k' om} F0 h'=>⟨some v,k',rfl,λ w hw=>hr w (.tail _ hw),by omega,h'⟩
  cases Nz:isRef v with
  | false=>
   simp only[↓WS,↓WE,↓WV,Lq,af,UU,Nat.reduceSub,↓reduceIte,↓aB (Bm nv Nz),fj]
   exact fin (by omega) h
  | true=>
   cases v with
   | ref i=>
    have hi:b<=i:=of_decide_eq_true nv
    have hf:i < f:=by simpa[AV.low]using lv
    obtain⟨xs,e,lx,nx,qx⟩:=h.nl i hi hf
    have h1:Sp b f s items (k+1) (st.set i (.lst xs.reverse)):=h.set hi hf (by rw[List.length_reverse];omega) (λ w hw=>nx w (List.mem_reverse.mp hw)) (wY qx)
    have e1:ak (st.set i (.lst xs.reverse)) i=some xs.reverse:=my e
    have n2:∀ w∈xs.reverse++[AV.str "more"],nice b w=true:=λ w hw=>by
     rcases List.mem_append.mp hw with hw|hw
     ·exact nx w (List.mem_reverse.mp hw)
     ·rw[List.mem_singleton.mp hw];rfl
    have q2:aG i (xs.reverse++[AV.str "more"])=true:=uH (wY qx) (by simp[AV.low])
    have h2:Sp b f s items (k+2) ((st.set i (.lst xs.reverse)).set i (.lst (xs.reverse++[.str "more"]))):=h1.set hi hf (by simp;omega) n2 q2
    have e2:ak ((st.set i (.lst xs.reverse)).set i (.lst (xs.reverse++[.str "more"]))) i=some (xs.reverse++[.str "more"]):=my e1
    have ea:=Cq (v:=.str "more") e1 (by rw[List.length_reverse];omega)
    simp only[↓WS,↓WE,↓WV,Lq,af,UU,Nat.reduceSub,↓reduceIte,↓aB (sW e),fj,j7 e,↓aB (G0 e),j7 e1,↓aB ea,↓aB (sW e2)]
    generalize (st.set i (.lst xs.reverse)).set i (.lst (xs.reverse++[AV.str "more"]))=yN at *
    obtain⟨a,l,ea⟩:∃ a l,xs.reverse++[AV.str "more"]=a :: l:=by
     cases e:xs.reverse++[AV.str "more"]with
     | nil=>simp at e
     | cons a l=>exact⟨a,l,rfl⟩
    rw[ea]at e2 n2 q2
    have na:=n2 a (.head _)
    have la:a.low i=true:=mz q2 (.head _)
    obtain⟨t,et⟩:=HM h2 na (AV.low.mono (by omega) la)
    have ei:jx (a :: l) 0=some a:=Lq.2.2.2.2.1 a l
    rw[e2,aj,ei,aj,nN,aB et]
    cases t with
    | false=>walk_at "w";exact fin (by omega) h2
    | true=>
     simp only[↓WS,↓WE,↓WV,Lq,af,UU,Nat.reduceSub,↓reduceIte,e2,ei]
     cases ha:isRef a with
     | false=>
      simp only[↓WS,↓WE,↓WV,Lq,af,UU,Nat.reduceSub,↓reduceIte,↓aB (Bm na ha),fj]
      exact fin (by omega) h2
     | true=>
      cases a with
      | ref j=>
       have hj:b<=j:=of_decide_eq_true na
       have TN:j < i:=by simpa[AV.low]using la
       obtain⟨ys,ey,ly,ny,qy⟩:=h2.nl j hj (by omega)
       have h3:Sp b f s items (k+3) (yN.set j (.lst (ys++[.str "more"]))):=h2.set hj (by omega) (by simp;omega) (λ w hw=>by
        rcases List.mem_append.mp hw with hw|hw
        ·exact ny w hw
        ·rw[List.mem_singleton.mp hw];rfl) (uH qy (by simp[AV.low]))
       have eb:=Cq (v:=.str "more") ey (by omega)
       simp only[↓WS,↓WE,↓WV,Lq,af,UU,Nat.reduceSub,↓reduceIte,↓aB (sW ey),fj,e2,ei,j7 ey,↓aB eb]
       exact fin (by omega) h3
      | _=>cases ha
   | _=>cases Nz
end
theorem Cn (ns:List Int){s0:S}(c0:Cl s0):(dC [.sq (ns.map AV.int)] s0).wp λ v s'=>∃ c d e,v=.ref d/\s'=s0++e/\Dr c d 0 s'/\s0.length<=c/\s0.length<=d:=by
 obtain⟨ms,em⟩:∃ ms:List Int,i_ (ns.map AV.int) none (some 63)=ms.map AV.int:=by
  refine⟨i_ ns none (some 63),?_⟩
  unfold i_;rw[List.length_map,<-List.map_drop,<-List.map_take]
 have e1:Aw (.sq (ns.map AV.int)) none (some 63) s0=.ok (.ref s0.length) (s0++[.lst (ms.map AV.int)]):=by
  show R.ok _ (s0++[AO.lst (i_ (ns.map AV.int) none (some 63))])=_
  rw[em]
 have e2:items (.ref s0.length) (s0++[.lst (ms.map AV.int)])=some (ms.map AV.int):=aM _ _
 have c1:Cl (s0++[.lst (ms.map AV.int)]):=c0.add (by simp[AO.low,low_ints])
 have c2:Cl (s0++[.lst (ms.map AV.int)]++[.lst (ms.map AV.int)]):=c1.add (by simp[AO.low,low_ints])
 have l2:ak (s0++[.lst (ms.map AV.int)]++[.lst (ms.map AV.int)]) (s0++[AO.lst (ms.map AV.int)]).length=some (ms.map AV.int):=aM _ _
 have b2:s0.length<=(s0++[AO.lst (ms.map AV.int)]).length:=by simp
 unfold dC jv
 simp only[↓WS,↓WE,↓WV,Lq,af,UU,Nat.reduceSub,↓reduceIte,↓aB e1,e2,wH]
 rw[List.append_assoc]at *
 have g2:s0.length<=(s0++([AO.lst (ms.map AV.int)]++[AO.lst (ms.map AV.int)])).length:=by simp
 generalize ([AO.lst (ms.map AV.int)]++[AO.lst (ms.map AV.int)])=ee at *
 generalize (s0++[AO.lst (ms.map AV.int)]).length=k1 at *
 have e3:dM (.ref k1) (.ref (s0++ee).length) (s0++ee++[.lst []])=.ok (.bl (ms.map AV.int).isEmpty) (s0++ee++[.lst []]):=by
  unfold dM;rw[BV (xs:=ms.map AV.int) (aq l2) (aM _ _) (rN ms)];rfl
 have ed:∀ (s:S) (k:Nat) (x:Option AV),jB [((mc (.str "cells")),(mv 1)),((mc (.str "turn")),(mc (.int 0)))] [x,some (.ref k)] s=.ok (.ref s.length) (s++[.dK (rS k 0)]):=by
  intro s k x
  unfold jB yP yP yP
  simp only[mc,mv,aA,Lq,pV,f7,Option.bind_some,Option.map_some,aj]
  rw[if_pos (by show(2:Nat)<=15;omega)]
  congr 1
 simp only[↓WS,↓WE,↓WV,Lq,af,UU,Nat.reduceSub,↓reduceIte,↓aB e3,List.take_left]
 have fin:∀ (k:Nat) (e:S) (cells:List Int),ak (s0++e) k=some (cells.map AV.int)->cells≠[]->Cl (s0++e)->s0.length<=k->∃ c d e',AV.ref (s0++e).length=.ref d/\s0++e++[.dK (rS k 0)]=s0++e'/\Dr c d 0 (s0++e++[.dK (rS k 0)])/\s0.length<=c/\s0.length<=d:=λ k e cells hl hc cl hk=>by
  have lk:=(List.getElem?_eq_some_iff.mp (aw hl)).1
  refine⟨k,_,_,rfl,by rw[List.append_assoc],⟨⟨0,cells,by rw[List.getElem?_append_right (Nat.le_refl _)];simp,aw (aq hl),hc,by omega,by omega⟩,cl.add ?_⟩,hk,by simp⟩
  simp only[List.all_cons,List.all_nil,AO.low,rS,List.map_cons,List.map_nil,aG,AV.low,Bool.and_true,decide_eq_true_eq]
  simp;simp at lk;omega
 cases ms with
 | nil=>
  simp only[List.map_nil,List.isEmpty_nil,if_true,↓aB (ed _ _ _)]
  have l3:=aM (s0++ee) [.int 7]
  have c3:Cl (s0++ee++[.lst [.int 7]]):=c2.add (by simp[AO.low,aG,AV.low])
  rw[List.append_assoc]at l3 c3 ⊢
  exact fin _ _ [7] l3 (by simp) c3 g2
 | cons m r=>
  simp only[List.map_cons,List.isEmpty_cons,Bool.false_eq_true,if_false,↓aB (ed _ _ _)]
  exact fin _ _ (m :: r) l2 (by simp) c2 b2
theorem xo {α:Type}:∀ (l:List α) (m:Nat) (h:m < l.length),(l[m] :: l.eraseIdx m).Perm l
 | [],_,h=>absurd h (by simp)
 | _ :: _,0,_=>List.Perm.refl _
 | a :: r,m+1,h=>((List.Perm.swap ..).trans (List.Perm.cons a (xo r m (by simpa using h))):(r[m]'(by simpa using h) :: a :: r.eraseIdx m).Perm (a :: r))
theorem D9:([]++sO).Nodup:=by decide +kernel
theorem AK {c d n:Nat}{s:S}(D:Dr c d n s)(hn:n<=900000000){k:Int}(k0:0<=k)(k1:k<=20):(dB [.ref d,.int k] s).wp λ v s'=>∃ (j:Nat) (zs:List Str),v=.ref j/\s.length<=j/\ak s' j=some (zs.map AV.str)/\(zs.length:Int)=k/\(∀ z∈zs,z∈sO)/\zs.Nodup/\Dr c d (n+20) s'/\Gk c d s s':=by
 have lc:=D.EE
 have ld:=D.ED
 unfold dB ju
 simp only[↓WS,↓WE,↓WV,Lq,af,UU,Nat.reduceSub,↓reduceIte,↓lX,↓aB (C9 _),show ∀ s:S,(iY "str" (.str "b aa zebra c quartzes ab m knows d mm likes z ba abcdefgh y zz e x f g hh jj kk pave") s).isSome=true from λ _=>rfl]
 refine⟨⟨by omega,by omega⟩,xT (by simp[kM];omega),?_⟩
 refine kL (λ xs acc env st=>∃ (ys zs:List Str) (x:Option AV),acc=zs.map AV.str/\ak st s.length=some (ys.map AV.str)/\(xs.length:Int)+zs.length=k/\ys.length+zs.length=24/\(∀ z∈ys,z∈sO)/\(∀ z∈zs,z∈sO)/\(zs++ys).Nodup/\env=[x,some (.ref s.length),some (.ref d)]/\Dr c d (n+zs.length) st/\Gk c d s st) ?_ ?_ ?_ _ _ _ _ ⟨sO,[],none,rfl,aM _ _,by simp[kM];omega,by rw[AE];rfl,λ _ h=>h,(λ _ h=>nomatch h),D9,rfl,D.app (D.cl.add (by simp[AO.low,cg])),Gk.app c d s _⟩
 ·rintro _ _ _ st _ p hp;cases hp
 ·rintro acc env st ⟨ys,zs,x,rfl,l1,l2,l3,m1,m2,nd,rfl,D1,G1⟩
  refine⟨st.length,zs,rfl,G1.len,aM _ _,by simpa using l2,m2,(List.nodup_append.mp nd).1,?_,G1.trans (Gk.app c d st _)⟩
  have l2:((0:Nat):Int)+zs.length=k:=l2
  exact(D1.app (D1.cl.add (by simp[AO.low,cg]))).mono (by omega)
 ·rintro v r acc env st ⟨ys,zs,x,rfl,l1,l2,l3,m1,m2,nd,rfl,D1,G1⟩
  have l2:((r.length+1:Nat):Int)+zs.length=k:=l2
  simp only[↓WS,↓WE,↓WV,Lq,af,UU,Nat.reduceSub,↓reduceIte,j7 l1,↓aB (nt l1),List.length_map]
  refine(gF D1 (by omega) (by omega) (qD (by omega) (by omega))).mono ?_
  rintro _ s1 ⟨j,rfl,j0,j1,D2,K2⟩
  have l4:=K2.gk.lst (n:=0) (by omega) (by omega) l1
  obtain⟨m,rfl⟩:∃ m:Nat,j=m:=⟨j.toNat,by omega⟩
  have hm:m < ys.length:=by omega
  have ep:qY (.ref s.length) [.int m] s1=.ok (.str ys[m]) (s1.set s.length (.lst ((ys.eraseIdx m).map AV.str))):=by
   show(need (ak s1 s.length) λ xs=>if 0<=(m:Int)/\(m:Int) < xs.length then need xs[(m:Int).toNat]? λ y=>R.ok y (s1.set s.length (.lst (xs.eraseIdx (m:Int).toNat))) else .bad)=_
   rw[l4,aj,if_pos ⟨by omega,by rw[List.length_map];omega⟩]
   show(need (ys.map AV.str)[m]? λ y=>R.ok y (s1.set s.length (.lst ((ys.map AV.str).eraseIdx m))))=_
   rw[List.getElem?_map,List.getElem?_eq_getElem hm]
   show R.ok (AV.str ys[m]) _=_
   rw[BS]
  rw[aB ep]
  refine⟨ys.eraseIdx m,zs++[ys[m]],_,by simp,my l4,by simp;omega,?_,λ z hz=>m1 z (List.mem_of_mem_eraseIdx hz),λ z hz=>?_,?_,rfl,?_,(G1.trans K2.gk).set (Nat.le_refl _)⟩
  ·rw[List.length_eraseIdx_of_lt hm];simp;omega
  ·rcases List.mem_append.mp hz with hz|hz
   ·exact m2 z hz
   ·rw[List.mem_singleton.mp hz];exact m1 _ (List.getElem_mem hm)
  ·rw[List.append_assoc]
   refine(List.Perm.append_left zs ?_).nodup nd
   exact(xo ys m hm).symm
  ·exact(D2.mono (by simp;omega)).set (by omega) (by omega) (cg _ _)
theorem AD:∀ z∈sO,z.length<=1000:=by
 have:(sO.all λ z=>decide (z.length<=1000))=true:=by decide +kernel
 exact λ z hz=>of_decide_eq_true (List.all_eq_true.mp this z hz)
theorem FQ {c d n:Nat}{s:S}(D:Dr c d n s)(hn:n<=900001000){xs:List AV}{m:Int}(hm:m=xs.length)(TH:0 < m)(TF:m<=10){P:AV->Prop}(hx:∀ v∈xs,P v/\∀ b,v.low b=true) :
  (aO [.ref d,.int m] (s++[.lst xs])).wp λ v s2=>∃ b,bj (.ref s.length) v s2=.ok b s2/\P b/\b.low s.length=true/\(s2.take s.length).all (AO.low s.length)=true/\Dr c d (n+1) (s2.take s.length)/\Kp c d s (s2.take s.length):=by
 have lx:∀ b,aG b xs=true:=λ b=>gY λ v hv=>(hx v hv).2 b
 have D1':=D.app (e:=[.lst xs]) (D.cl.add (by simp[AO.low,lx]))
 refine(gF D1' (by omega) (by omega) (qD (by omega) (by omega))).mono ?_
 rintro _ s2 ⟨j,rfl,j0,j1,D2,K2⟩
 obtain⟨v,hv,ev⟩:=xa (s:=s2) (i:=s.length) (j:=j) (K2.gk.lst (n:=0) (by have:=D.EE;omega) (by have:=D.ED;omega) (aM s _)) j0 (by omega)
 obtain⟨D3,K3,al⟩:=((Gk.app c d s _).trans K2.gk).cut D D2
 exact⟨v,ev,(hx v hv).1,(hx v hv).2 _,al,D3,K3⟩
theorem KU {c d n i:Nat}{s:S}(D:Dr c d n s)(hn:n<=900000000){l:List Str}(hl:ak s i=some (l.map AV.str)) (h0:0 < l.length)(h1:l.length<=1000)(ic:i≠c)(Pd:i≠d):(gL [.ref d,.ref i] s).wp λ v s'=>∃ x,v=.str x/\x∈l/\Dr c d (n+1) s'/\Kp c d s s':=by
 unfold gL nK
 simp only[↓WS,↓WE,↓WV,Lq,af,UU,Nat.reduceSub,↓reduceIte,↓aB (nt hl),List.length_map]
 refine(gF D (by omega) (by omega) (qD (by omega) (by omega))).mono ?_
 rintro _ s1 ⟨j,rfl,j0,j1,D1,K1⟩
 obtain⟨v,hv,ev⟩:=xa (s:=s1) (i:=i) (j:=j) (K1.gk.lst (n:=0) ic Pd hl) j0 (by rw[List.length_map];exact j1)
 obtain⟨x,hx,rfl⟩:=List.mem_map.mp hv
 have SW:(need (ak s1 i) λ xs=>need (jx xs j) λ v=>R.ok v s1)=.ok (.str x) s1:=ev
 simp only[↓WS,↓WE,↓WV,Lq,af,UU,Nat.reduceSub,↓reduceIte,↓aB SW]
 exact⟨x,rfl,hx,D1,K1⟩
def vn (w:Str):Prop:=w="person"∨w="work"∨w="half"∨w="keep"
theorem Fm {c d n i:Nat}{s:S}(D:Dr c d n s)(hn:n<=800000000){l:List Str}(hl:ak s i=some (l.map AV.str)) (h0:0 < l.length)(h1:l.length<=1000)(hs:∀ x∈l,x.length<=1000)(ic:i≠c)(Pd:i≠d){w:Str}(hw:vn w):(eF [.ref d,.ref i,.str w] s).wp λ v s'=>∃ de,v=dv de/\de.nm/\Dr c d (n+10) s'/\Kp c d s s':=by
 unfold eF ku
 walk_at "w"
 refine(KU D (by omega) hl h0 h1 ic Pd).mono ?_
 rintro _ s1 ⟨x,rfl,hx,D1,K1⟩
 have hx:=hs x hx
 rcases hw with rfl|rfl|rfl|rfl
 ·simp only[↓WS,↓WE,↓WV,Lq,af,UU,Nat.reduceSub,↓reduceIte,WQ,decide_false]
  exact⟨.person x,rfl,hx,D1.mono (by omega),K1⟩
 ·simp only[↓WS,↓WE,↓WV,Lq,af,UU,Nat.reduceSub,↓reduceIte,WQ,decide_false]
  exact⟨.work x,rfl,hx,D1.mono (by omega),K1⟩
 ·simp only[↓WS,↓WE,↓WV,Lq,af,UU,Nat.reduceSub,↓reduceIte,decide_true]
  refine(gF D1 (by omega) (by omega) (qD (by omega) (by omega))).mono ?_
  rintro _ s2 ⟨r,rfl,r0,r1,D2,K2⟩
  walk_at "w"
  refine⟨xT (by simp),?_⟩
  rw[<-K2.len]
  refine(FQ D2 (by omega) (P:=λ v=>∃ b,v=.int b) rfl (by simp) (by simp) ?_).mono ?_
  ·intro v hv
   simp only[List.mem_cons,List.not_mem_nil,or_false]at hv
   rcases hv with rfl|rfl|rfl|rfl<;>exact⟨⟨_,rfl⟩,λ b=>by simp[AV.low]⟩
  rintro _ s3 ⟨v,ev,⟨b,rfl⟩,lo,al,D3,K3⟩
  simp only[↓WS,↓WE,↓WV,Lq,af,UU,Nat.reduceSub,↓reduceIte,↓aB ev,al,lo]
  exact⟨.half b,rfl,trivial,D3.mono (by omega),(K1.trans K2).trans K3⟩
 ·simp only[↓WS,↓WE,↓WV,Lq,af,UU,Nat.reduceSub,↓reduceIte,WQ,decide_false,decide_true]
  refine(wL D1 (by omega)).mono ?_
  rintro _ s2 ⟨q1,rfl,_,_,_,D2,K2⟩
  refine(wL D2 (by omega)).mono ?_
  rintro _ s3 ⟨q2,rfl,_,_,_,D3,K3⟩
  refine⟨xT (by simp),?_⟩
  rw[<-K2.len,<-K3.len]
  refine(FQ D3 (by omega) (P:=λ v=>∃ a,v=kI a) rfl (by simp) (by simp) ?_).mono ?_
  ·intro v hv
   simp only[List.mem_cons,List.not_mem_nil,or_false]at hv
   rcases hv with rfl|rfl|rfl|rfl
   ·exact⟨⟨(0,1),rfl⟩,λ b=>by simp[AV.low,aG]⟩
   ·exact⟨⟨(1,1),rfl⟩,λ b=>by simp[AV.low,aG]⟩
   ·exact⟨⟨(q1.num,q1.den),rfl⟩,λ b=>by simp[fq,AV.low,aG]⟩
   ·exact⟨⟨(q2.num,q2.den),rfl⟩,λ b=>by simp[fq,AV.low,aG]⟩
  rintro _ s4 ⟨v,ev,⟨a,rfl⟩,lo,al,D4,K4⟩
  simp only[↓WS,↓WE,↓WV,Lq,af,UU,Nat.reduceSub,↓reduceIte,↓aB ev,al,lo]
  exact⟨.keep x a,rfl,hx,D4.mono (by omega),((K1.trans K2).trans K3).trans K4⟩
theorem IS {c:Nat}{s t:S}{fs:List (Str × AV)}:nB c (.ref s.length) (s++AO.ins c fs :: t)=some (s.length,fs):=kH (by rw[List.getElem?_append_right (Nat.le_refl _)];simp)
theorem GS {s t:S}{a o:AO}:(s++a :: t).set s.length o=s++o :: t:=by rw[List.set_append_right _ _ (Nat.le_refl _)];simp
theorem il {c:Nat}{f:Str}{m:Ev}{v:AV}{s t t':S}{fs:List (Str × AV)}{env:En}(hl:fs.length < 1000)(e:m (some (.ref s.length) :: env) (s++.ins c fs :: t)=.ok v (s++.ins c fs :: t')):gW c f (mv 0) m (some (.ref s.length) :: env) (s++.ins c fs :: t)=.nx (some (.ref s.length) :: env) (s++.ins c (qX f v fs) :: t'):=by
 unfold gW
 simp only[e,ja,iQ,IS]
 rw[if_pos hl,GS]
theorem u6 {s t:S}{a:AO}{env:En}:vj env (s++a :: t)=.ok (.ref (s.length+(t.length+1))) (s++a :: (t++[.dK []])):=by
 unfold vj
 rw[List.length_append,List.length_cons,List.append_assoc];rfl
theorem FW {s t:S}{a:AO}{env:En}:aR (dc ag) env (s++a :: t)=.ok (.ref (s.length+(t.length+1))) (s++a :: (t++[.lst []])):=by
 apply R.wp.eq
 simp only[↓WS,↓WE,↓WV,Lq,af,UU,Nat.reduceSub,↓reduceIte,List.length_append,List.length_cons,List.append_assoc,List.cons_append]
theorem ES (s:S):bE [.ref s.length] (s++[.ins 9 []])=.ok .az (s++[.ins 9 (qm s.length 182),.dK [],.dK [],.dK [],.dK [],.dK [],.lst [],.lst []]):=by
 unfold bE gz
 refine qb (env:=[some (.ref s.length)]) (e:=[some (.ref s.length)]) ?_
 rw[ll (il (by show 0 < 1000;omega) u6),ll (il (by show 1 < 1000;omega) u6),ll (il (by show 2 < 1000;omega) u6),ll (il (by show 3 < 1000;omega) u6),ll (il (by show 4 < 1000;omega) u6),
  ll (il (m:=mc cq) (v:=.int 182) (by show 5 < 1000;omega) rfl),ll (il (by show 6 < 1000;omega) FW),il (by show 7 < 1000;omega) FW]
 rfl
theorem EC (s:S)(env:En):lG 9 bE env s=.ok (.ref s.length) (s++[.ins 9 (qm s.length 182),.dK [],.dK [],.dK [],.dK [],.dK [],.lst [],.lst []]):=by
 unfold lG
 rw[ES];rfl
theorem zi (s:S){B:Nat}(hB:s.length=B+8):cM [] s=.ok (.ref (B+14)) (s++[.lst [],.dK [],.lst [],.dK [],.lst [],.dK [],.dK (qK B 182),.lst [],.lst []]):=by
 have e1:jB [((mc (.str "people")),(aR (dc ag))),((mc (.str "works")),vj),((mc (.str "hands")),(aR (dc ag))),((mc (.str "known")),vj),((mc (.str "rates")),(aR (dc ag))),((mc (.str "keeps")),vj),((mc (.str "half")),(mc (.int 182)))] [none] s=.ok (.ref (B+14)) (s++[.lst [],.dK [],.lst [],.dK [],.lst [],.dK [],.dK [(.inr "people",.ref (B+8)),(.inr "works",.ref (B+9)),(.inr "hands",.ref (B+10)),(.inr "known",.ref (B+11)),(.inr "rates",.ref (B+12)),(.inr "keeps",.ref (B+13)),(.inr "half",.int 182)]]):=by
  have ln:∀ (t:S) (env:En),aR (dc ag) env t=.ok (.ref t.length) (t++[.lst []]):=λ t env=>by
   apply R.wp.eq
   walk_at "w"
  have ld:∀ (t:S) (env:En),vj env t=.ok (.ref t.length) (t++[.dK []]):=λ t env=>rfl
  unfold jB
  simp only[yP,mc,aA,ln,ld,pV,f7,Option.bind_some,Option.map_some,aj,List.append_assoc,List.cons_append,List.nil_append,List.length_append,List.length_cons,List.length_nil,hB]
  rw[if_pos (by show(7:Nat)<=15;omega)]
  rfl
 have g:∀ (t:S) (o:AO),(s++(t++[o]))[s.length+t.length]? = some o:=λ t o=>by
  rw[List.getElem?_append_right (by omega),List.getElem?_append_right (by omega)]
  rw[show s.length+t.length - s.length - t.length=0 by omega];rfl
 have rs_eq:∀ {r:RS}{a:AV}{t:S},r.wp (λ _ _=>False) (λ v s'=>v=a/\s'=t)->r=.rt a t:=λ {r a t} h=>by
  cases r with
  | rt v s'=>obtain⟨rfl,rfl⟩:=h;rfl
  | _=>exact h.elim
 unfold cM jt
 refine Mi (env:=[none]) (rs_eq ?_)
 simp only[↓WS,↓WE,↓WV,Lq,af,UU,Nat.reduceSub,↓reduceIte,↓aB e1]
 have L7:∀ (t:S),(s++t).length=s.length+t.length:=λ t=>List.length_append
 have dk:∀ (t:S) (kvs:List (Key × AV)),gC (s++[.lst [],.dK [],.lst [],.dK [],.lst [],.dK [],.dK kvs]++t) (B+14)=some kvs:=λ t kvs=>iI (by
  rw[List.append_assoc,List.getElem?_append_right (by omega),show B+14 - s.length=6 by omega];rfl)
 have st:∀ (t:S) (a b:AO),(s++[.lst [],.dK [],.lst [],.dK [],.lst [],.dK [],a]++t).set (B+14) b=s++[.lst [],.dK [],.lst [],.dK [],.lst [],.dK [],b]++t:=λ t a b=>by
  rw[List.append_assoc,List.append_assoc,List.set_append_right _ _ (by omega),show B+14 - s.length=6 by omega];rfl
 rw[pd]
 unfold p_
 simp only[↓WS,↓WE,↓WV,Lq,af,UU,Nat.reduceSub,↓reduceIte,bW]
 rw[List.append_assoc,qo (jP (dk _ _) (by show 7 < 1000;omega)),st]
 simp only[↓WS,↓WE,↓WV,Lq,af,UU,Nat.reduceSub,↓reduceIte,↓pd,bW]
 rw[qo (jP (dk _ _) (by
  refine Nat.lt_of_le_of_lt (uu _ _ _) (by show 7+1 < 1000;omega))),st]
 walk_at "w"
 simp only[List.length_append,List.length_cons,List.length_nil,hB]
 rw[List.append_assoc]
 rfl
structure LS (c d n B nl:Nat)(names:List Str)(V W:Wl)(s:S):Prop where
 dr:Dr c d n s
 at_:At B (mid B V W) s
 t0:s[0]? = some (.tab 20 oB)
 c0:0 < c/\c < B
 d0:0 < d/\d < B
 nm:ak s nl=some (names.map AV.str)
 n0:0 < nl/\nl < B/\nl≠c/\nl≠d
structure Wk (c d B:Nat)(s s':S):Prop where
 len:s.length<=s'.length
 get:∀ i,i < s.length->i≠c->i≠d->i < B∨B+17<=i->s'[i]? = s[i]?
theorem Wk.refl (c d B:Nat)(s:S):Wk c d B s s:=⟨Nat.le_refl _,λ _ _ _ _ _=>rfl⟩
theorem Wk.trans {c d B:Nat}{s s' vi:S}(h:Wk c d B s s')(k:Wk c d B s' vi):Wk c d B s vi:=⟨Nat.le_trans h.len k.len,λ i hi h1 h2 h3=>(k.get i (Nat.lt_of_lt_of_le hi h.len) h1 h2 h3).trans (h.get i hi h1 h2 h3)⟩
theorem Kp.wk {c d:Nat}{s s':S}(h:Kp c d s s')(B:Nat):Wk c d B s s':=⟨by rw[h.len];exact Nat.le_refl _,λ i _ h1 h2 _=>h.get i h1 h2⟩
theorem Cw.wk {B:Nat}{s s':S}(h:Cw B s s')(c d:Nat):Wk c d B s s':=⟨h.len,λ i hi _ _ k=>h.get i hi k⟩
section
variable {c d n B nl:Nat}{names:List Str}{V W:Wl}{s s':S}
theorem LS.JR (h:LS c d n B nl names V W s):lb B V W s:=⟨h.at_,h.dr.cl,List.any_eq_true.mpr ⟨_,List.mem_of_getElem? h.t0,by simp[tabAt]⟩⟩
theorem LS.len (h:LS c d n B nl names V W s):B+17<=s.length:=h.at_.len (by show 0 < 17;omega)
theorem LS.kp {m:Nat}(h:LS c d n B nl names V W s)(k:Kp c d s s')(D:Dr c d m s'):LS c d m B nl names V W s':=by
 have c0:=h.c0
 have d0:=h.d0
 have n0:=h.n0
 exact⟨D,h.at_.keep λ i hi _=>k.get i (by omega) (by omega),(k.get 0 (by omega) (by omega)).trans h.t0,c0,d0,k.gk.lst (n:=0) n0.2.2.1 n0.2.2.2 h.nm,n0⟩
theorem LS.app (h:LS c d n B nl names V W s){e:S}(k:Cl (s++e)):LS c d n B nl names V W (s++e):=by
 have:=h.len
 exact⟨h.dr.app k,h.at_.app e,by rw[List.getElem?_append_left (by omega)];exact h.t0,h.c0,h.d0,aq h.nm,h.n0⟩
theorem LS.Ra {V' W':Wl}(h:LS c d n B nl names V W s)(k:Cw B s s')(b:lb B V' W' s'):LS c d n B nl names V' W' s':=by
 have c0:=h.c0
 have d0:=h.d0
 have n0:=h.n0
 have hl:=h.len
 have g:∀ i,i < B->s'[i]? = s[i]?:=λ i hi=>k.get i (by omega) (.inl hi)
 obtain⟨⟨t,cells,h1,h2,h3⟩,_⟩:=h.dr
 exact⟨⟨⟨t,cells,by rw[g d d0.2];exact h1,by rw[g c c0.2];exact h2,h3⟩,b.cl⟩,b.at_,by rw[g 0 (by omega)];exact h.t0,c0,d0,cC (by rw[g nl n0.2.1];exact aw h.nm),n0⟩
theorem wZ (ok:∀ e∈W.kw,∃ a,e.2=kI a){b:Nat}(hb:B+17<=b):∀ o∈mid B V W,o.low b=true:=by
 intro o ho
 unfold mid at ho
 simp only[List.mem_cons,List.not_mem_nil,or_false]at ho
 rcases ho with rfl|rfl|rfl|rfl|rfl|rfl|rfl|rfl|rfl|rfl|rfl|rfl|rfl|rfl|rfl|rfl|rfl
 ·simp[AO.low,qm,aG,AV.low];omega
 ·exact jW (λ _=>kC _ _) _
 ·exact jW (λ _=>by simp[AV.low,aG]) _
 ·simp[AO.low,aG]
 ·simp[AO.low,aG]
 ·simp[AO.low,aG]
 ·simp[AO.low,aG]
 ·simp[AO.low,aG]
 ·exact cg _ _
 ·exact jW (λ _=>by simp[AV.low,aG]) _
 ·simp[AO.low,aG]
 ·simp[AO.low,aG]
 ·simp[AO.low,aG]
 ·refine gY λ v hv=>?_
  obtain⟨e,he,rfl⟩:=List.mem_map.mp hv
  obtain⟨a,ea⟩:=ok e he
  rw[ea];exact kC _ _
 ·simp[AO.low,qK,aG,AV.low];omega
 ·simp[AO.low,aG]
 ·simp[AO.low,aG]
theorem LS.cut {m:Nat}{V' W':Wl}(h:LS c d n B nl names V W s)(w:Wk c d B s s')(h':LS c d m B nl names V' W' s')(ok:∀ e∈W'.kw,∃ a,e.2=kI a):LS c d m B nl names V' W' (s'.take s.length)/\(s'.take s.length).all (AO.low s.length)=true:=by
 have c0:=h.c0
 have d0:=h.d0
 have n0:=h.n0
 have hl:=h.len
 have lc:=h.dr.EE
 have ld:=h.dr.ED
 have el:(s'.take s.length).length=s.length:=by rw[List.length_take];have:=w.len;omega
 have eg:∀ i,i < s.length->(s'.take s.length)[i]? = s'[i]?:=λ i hi=>List.getElem?_take_of_lt hi
 obtain⟨⟨t,cells,h1,h2,h3⟩,S_⟩:=h'.dr
 have all:(s'.take s.length).all (AO.low s.length)=true:=by
  rw[List.all_eq_true]
  intro o ho
  obtain⟨i,hi,e⟩:=List.mem_iff_getElem.mp ho
  rw[el]at hi
  have e':(s'.take s.length)[i]? = some o:=by rw[List.getElem?_eq_getElem (by rw[el];exact hi)];rw[e]
  rw[eg i hi]at e'
  by_cases c1:i=c
  ·subst c1;rw[h2]at e';cases e';exact low_ints _ _
  by_cases c2:i=d
  ·subst c2;rw[h1]at e';cases e';simp[AO.low,rS,aG,AV.low,lc]
  by_cases c3:i < B∨B+17<=i
  ·rw[w.get i hi c1 c2 c3]at e'
   exact List.all_eq_true.mp (show s.all (AO.low s.length)=true from h.dr.cl) o (List.mem_of_getElem? e')
  ·have q:=h'.at_.get (i - B) (by show i - B < 17;omega)
   rw[show B+(i - B)=i by omega,e']at q
   exact wZ ok hl o (List.mem_of_getElem? q.symm)
 refine⟨⟨⟨⟨t,cells,by rw[eg d ld];exact h1,by rw[eg c lc];exact h2,h3⟩,by unfold Cl;rw[el];exact all⟩,h'.at_.keep λ i _ hi=>eg i (by have:(mid B V' W').length=17:=rfl;omega),by rw[eg 0 (by omega)];exact h'.t0,c0,d0,cC (by rw[eg nl (by omega)];exact aw h'.nm),n0⟩,all⟩
end
structure Hd (r:R AV)(Q:AV->S->Prop):Prop where
 run:r.wp Q
theorem Hd.to {r:R AV}{P Q:AV->S->Prop}(h:Hd r P)(k:∀ v s,P v s->Q v s):r.wp Q:=h.run.mono k
theorem g7 {α:Type}{f:α->Dt}{k:Nat}:∀ {l:List α},(∀ a∈l,(f a).dep<=k)->dh (l.map f)<=k
 | [],_=>by simp[dh]
 | a :: r,h=>by
  rw[List.map_cons]
  have h1:=h a (.head _)
  have h2:=g7 (l:=r) λ b hb=>h b (.tail _ hb)
  simp only[dh];omega
theorem zu (V:Wl):(told V).dep < 9:=by
 have a1:dh ((au V.ps).map Dt.str)<=2:=g7 λ _ _=>by simp[Dt.dep]
 have a2:dh ((au V.ws).map Dt.str)<=2:=g7 λ _ _=>by simp[Dt.dep]
 have a3:dh ((au V.ws).map λ _=>Dt.tup [])<=2:=g7 λ _ _=>by simp[Dt.dep,dh]
 have a4:dh ((au V.ps).map λ _=>Dt.lst [])<=2:=g7 λ _ _=>by simp[Dt.dep,dh]
 have a5:dh ((au V.ws).map λ _=>Dt.az)<=2:=g7 λ _ _=>by simp[Dt.dep]
 have a6:dh ((au V.ps).map λ p=>Dt.tup [.int (V.kf p).1,.int (V.kf p).2])<=2:=g7 λ _ _=>by simp[Dt.dep,dh]
 unfold told pf ui uh
 simp only[Dt.dep,List.cons_append,List.nil_append,dh]
 omega
section
variable {c d n B nl:Nat}{names:List Str}{V:Wl}{s:S}
theorem sx (h:lb B V V s){m:Nat}(ok:yM m V)(hm:m < 64){K:AV->Prop}(k:K (.bl true)) :
  (aN [.ref B] s).wp λ v s1=>(bx [.ref (B+14)] s1).wp λ w s2=>(ar 9 [v,w] s2).wp λ x s3=>(s3.take s.length=s/\x.low s.length=true)/\K x:=by
 have lp:=ok.lp
 have lw:=ok.lw
 refine(oi rfl h (by omega) (by omega)).mono ?_
 rintro v s1 ⟨e,rfl,c1,r1⟩
 refine(wm (h.app c1.cl) (by omega) (by omega) λ p _=>ok.kw p).mono ?_
 rintro w s2 ⟨e2,rfl,c2,r2⟩
 rw[aB (wG (n:=9) (r1.zero.app e2) r2 (zu V))]
 refine⟨⟨?_,by simp[AV.low]⟩,k⟩
 rw[List.append_assoc];exact List.take_left
theorem xP (h:LS c d n B nl names V V s){m many:Nat}(ok:yM m V)(hm:m+many<=60)(hn:n<=700000000)(hN:0 < names.length)(SH:names.length<=1000)(hs:∀ x∈names,x.length<=1000)
  {wl:Nat}{ws:List Str}(hw:ak s wl=some (ws.map AV.str)) (LJ:B+17<=wl) (Tw:0 < ws.length) (Tv:ws.length<=1000) (R8:∀ w∈ws,vn w) :
  Hd (cx [.ref d,.ref B,.ref (B+14),.ref nl,.ref wl,.int many] s) λ v s'=>v=.bl true/\∃ V',yM (m+many) V'/\LS c d (n+20 * many) B nl names V' V' s'/\Wk c d B s s':=by
 have c0:=h.c0
 have d0:=h.d0
 have n0:=h.n0
 constructor
 unfold cx iL
 have SS:∀ {n:Nat}{b:Ms}{a1 a2 a3 a4 a5 a6:AV}{s:S}{Q:AV->S->Prop},(b (some a1 :: some a2 :: some a3 :: some a4 :: some a5 :: some a6 :: List.replicate (n - 6) none) s).wp (λ _ s1=>Q .az s1) Q->(eB n b [a1,a2,a3,a4,a5,a6] s).wp Q:=by
  intro n b a1 a2 a3 a4 a5 a6 s Q hh
  show(match b (some a1 :: some a2 :: some a3 :: some a4 :: some a5 :: some a6 :: List.replicate (n - 6) none) s with|.rt v s1=>R.ok v s1|.nx _ s1=>.ok .az s1|.ex c s1=>.ex c s1|_=>.bad).wp Q
  revert hh
  cases b (some a1 :: some a2 :: some a3 :: some a4 :: some a5 :: some a6 :: List.replicate (n - 6) none) s<;>exact λ z=>z
 refine SS ?_
 simp only[↓WS,↓WE,↓WV,Lq,af,UU,Nat.reduceSub,↓reduceIte,↓lX]
 refine⟨⟨by omega,by omega⟩,?_⟩
 refine nG (λ xs env st=>∃ (x6 x7 x8:Option AV) (z:Nat) (V':Wl),xs.length+z=many/\env=[some (.ref d),some (.ref B),some (.ref (B+14)),some (.ref nl),some (.ref wl),some (.int many),x6,x7,x8]/\yM (m+z) V'/\LS c d (n+20 * z) B nl names V' V' st/\Wk c d B s st) ?_ ?_ ?_ _ _ _ ⟨none,none,none,0,V,by simp[kM],rfl,ok,h,Wk.refl c d B s⟩
 ·rintro _ _ st _ p hp;cases hp
 ·rintro env st ⟨x6,x7,x8,z,V',hz,rfl,KS,h',w'⟩
  have hz:0+z=many:=hz
  rw[Nat.zero_add]at hz
  subst hz
  exact⟨V',KS,h',w'⟩
 ·rintro v r env st ⟨x6,x7,x8,z,V',hz,rfl,KS,h',w'⟩
  have hz:r.length+1+z=many:=hz
  have RV:wl < s.length:=(List.getElem?_eq_some_iff.mp (aw hw)).1
  have QR:ak st wl=some (ws.map AV.str):=cC (by rw[w'.get wl RV (by omega) (by omega) (.inr LJ)];exact aw hw)
  simp only[↓WS,↓WE,↓WV,Lq,af,UU,Nat.reduceSub,↓reduceIte,↓aB (nt QR),List.length_map]
  refine(gF h'.dr (by omega) (by omega) (qD (by omega) (by omega))).mono ?_
  rintro _ s1 ⟨j,rfl,j0,j1,D1,K1⟩
  have h1:=h'.kp K1 D1
  have Pk:ak s1 wl=some (ws.map AV.str):=K1.gk.lst (n:=0) (by omega) (by omega) QR
  obtain⟨wv,R7,ew⟩:=xa (s:=s1) (i:=wl) (j:=j) Pk j0 (by rw[List.length_map];exact j1)
  obtain⟨w,R9,rfl⟩:=List.mem_map.mp R7
  have SV:(need (ak s1 wl) λ xs=>need (jx xs j) λ v=>R.ok v s1)=.ok (.str w) s1:=ew
  simp only[↓WS,↓WE,↓WV,Lq,af,UU,Nat.reduceSub,↓reduceIte,↓aB SV]
  refine(Fm D1 (by omega) h1.nm hN SH hs n0.2.2.1 n0.2.2.2 (R8 w R9)).mono ?_
  rintro _ s2 ⟨de,rfl,SA,D2,K2⟩
  have h2:=h1.kp K2 D2
  refine(Jk h2.JR KS (by omega) de).mono ?_
  rintro _ s3 ⟨rfl,b3,g3⟩
  have h3:=h2.Ra g3.a b3
  refine(vD b3 KS (by omega) de SA).mono ?_
  rintro _ s4 ⟨rfl,b4,g4⟩
  have h4:=h3.Ra g4 b4
  have QI:=Fi KS de
  rw[aB (same_str 8 (jr V' de) s4)]
  simp only[fj,Bool.not_true,Bool.false_eq_true,if_false]
  rw[if_neg (by decide)]
  refine sx b4 QI (by omega) ?_
  rw[fj]
  dsimp only
  rw[if_neg (by decide)]
  exact⟨_,_,_,z+1,iH V' de,by omega,rfl,QI,⟨h4.dr.mono (by omega),h4.at_,h4.t0,h4.c0,h4.d0,h4.nm,h4.n0⟩,(((w'.trans (K1.wk B)).trans (K2.wk B)).trans (g3.a.wk c d)).trans (g4.wk c d)⟩
theorem xD (h:lb B V V s){j:Nat}{nm:List Str}(hl:ak s j=some (nm.map AV.str)) (hn:∀ x∈nm,x.length<=1000){K:AV->S->Prop}(k:∀ e,Cl (s++e)->K (.bl true) (s++e)):(aY [.ref B,.ref (B+14),.ref j] s).wp K:=
 (Fy h rfl rfl hl hn).mono λ v s' ⟨e1,e,e2,c⟩=>by subst e1 e2;exact k e c
theorem xY (h:lb B V V s){m:Nat}(ok:yM m V)(hm:m < 64){K:Prop}(k:K) :
  (aN [.ref B] s).wp λ v s1=>(cy [v] s1).wp λ x s3=>(s3.take s.length=s/\x.low s.length=true)/\K:=by
 have lp:=ok.lp
 have lw:=ok.lw
 refine(oi rfl h (by omega) (by omega)).mono ?_
 rintro v s1 ⟨e,rfl,c1,r1⟩
 unfold told Rp at r1
 obtain⟨f,items,rfl,hb,hf,hl,r⟩:=r1
 obtain⟨xs,ex,lx,nx,qx⟩:=c1.nl f _ hb (aw hf)
 cases ex
 have sp:Sp s.length f s items 0 (s++e):=⟨List.take_left,hf,λ i hi _=>by
  have lt:i < (s++e).length:=by have:=(List.getElem?_eq_some_iff.mp (aw hf)).1;omega
  obtain⟨ys,ey,ly,ny,qy⟩:=c1.nl i _ hi (List.getElem?_eq_getElem lt)
  exact⟨ys,cC (by rw[List.getElem?_eq_getElem lt,ey]),by omega,ny,qy⟩⟩
 refine(xX sp nx qx lx).mono ?_
 rintro _ s' ⟨rfl,e⟩
 exact⟨⟨e,by simp[AV.low]⟩,k⟩
end
theorem xF {s:S}{i j:Nat}{xs ys:List AV}(h1:ak s i=some xs)(h2:ak s j=some ys)(k:xs.length+ys.length<=1000):cZ (.ref i) (.ref j) s=.ok (.ref s.length) (s++[AO.lst (xs++ys)]):=by
 show(need (ak s i) λ xs=>need (ak s j) λ ys=>if xs.length+ys.length<=sizeLine then R.ok (AV.ref s.length) (s++[AO.lst (xs++ys)]) else .bad)=_
 rw[h1,h2,aj,aj,if_pos (xT k)]
theorem uD {c d n:Nat}{s:S}(D:Dr c d n s)(hn:n<=900000000):(b8 [.ref d] s).wp λ v s'=>∃ (j:Nat) (zs:List Str),v=.ref j/\s.length<=j/\ak s' j=some (zs.map AV.str)/\zs.length=8/\(∀ z∈zs,z.length<=1000)/\zs.Nodup/\Dr c d (n+20) s'/\Gk c d s s':=by
 have lc:=D.EE
 have ld:=D.ED
 unfold b8 gn
 walk_at "w"
 refine(AK D hn (by omega) (by omega)).mono ?_
 rintro _ s1 ⟨j,zs,rfl,hj,l1,l2,m1,nd,D1,G1⟩
 obtain⟨D2,K2,al⟩:=G1.cut D D1
 have Gp:Cl (s1.take s.length++[AO.lst (zs.map AV.str)]):=D2.cl.add (by simp[AO.low,cg])
 have NR:Cl (s1.take s.length++[AO.lst (zs.map AV.str)]++[AO.lst [.str "never"]]):=Gp.add (by simp[AO.low,aG,AV.low])
 have e1:(zs++[("never":Str)]).map AV.str=zs.map AV.str++[.str "never"]:=by simp
 have S8:Cl (s1.take s.length++[AO.lst (zs.map AV.str)]++[AO.lst [.str "never"]]++[AO.lst ((zs++[("never":Str)]).map AV.str)]):=NR.add (by
  have:=cg
  simp only[List.all_cons,List.all_nil,AO.low,Bool.and_true];exact cg _ _)
 have e2:cZ (.ref (s1.take s.length).length) (.ref (s1.take s.length++[AO.lst (zs.map AV.str)]).length) (s1.take s.length++[AO.lst (zs.map AV.str)]++[AO.lst [.str "never"]])=.ok (.ref (s1.take s.length++[AO.lst (zs.map AV.str)]++[AO.lst [.str "never"]]).length) (s1.take s.length++[AO.lst (zs.map AV.str)]++[AO.lst [.str "never"]]++[AO.lst ((zs++[("never":Str)]).map AV.str)]):=by
  rw[xF (aq (aM _ _)) (aM _ _) (by simp;omega),e1]
 simp only[↓WS,↓WE,↓WV,Lq,af,UU,Nat.reduceSub,↓reduceIte,l1,hj,al,cg,↓aB e2]
 refine⟨_,zs++[("never":Str)],rfl,?_,aM _ _,?_,?_,?_,(((D2.app Gp).app NR).app S8),((K2.gk.trans (Gk.app ..)).trans (Gk.app ..)).trans (Gk.app ..)⟩
 ·simp[K2.len]
 ·simp;omega
 ·intro z hz
  rcases List.mem_append.mp hz with hz|hz
  ·exact AD z (m1 z hz)
  ·rw[List.mem_singleton.mp hz];decide
 ·refine List.nodup_append.mpr ⟨nd,by simp,λ x hx y hy e=>?_⟩
  rw[List.mem_singleton.mp hy]at e
  subst e
  exact absurd (m1 _ hx) (by decide +kernel)
theorem Gk.wk {c d:Nat}{s s':S}(h:Gk c d s s')(B:Nat):Wk c d B s s':=⟨h.len,λ i hi h1 h2 _=>h.get i hi h1 h2⟩
def V0:Wl:=⟨[],λ _=>(0,1),[],[],182⟩
theorem Cr:yM 0 V0:=⟨λ _ _=>rfl,λ _=>rfl,λ _ h=>(nomatch h),Nat.le_refl _,Nat.le_refl _,Nat.le_refl _⟩
theorem Ci {c d n:Nat}{names:List Str}{s0:S}(D:Dr c d n s0)(t0:s0[0]? = some (.tab 20 oB)) (c0:0 < c)(d0:0 < d) :
  LS c d n (s0++[AO.lst (names.map AV.str)]).length s0.length names V0 V0 (s0++[AO.lst (names.map AV.str)]++mid (s0++[AO.lst (names.map AV.str)]).length V0 V0):=by
 have lc:=D.EE
 have ld:=D.ED
 have Gp:Cl (s0++[AO.lst (names.map AV.str)]):=D.cl.add (by
  simp only[List.all_cons,List.all_nil,AO.low,Bool.and_true];exact cg _ _)
 have NR:Cl (s0++[AO.lst (names.map AV.str)]++mid (s0++[AO.lst (names.map AV.str)]).length V0 V0):=Gp.add (by
  rw[List.all_eq_true]
  exact wZ Cr.kf (Nat.le_refl _))
 have el:(s0++[AO.lst (names.map AV.str)]).length=s0.length+1:=by simp
 exact⟨(D.app Gp).app NR,At.new _ _,by rw[List.append_assoc,List.getElem?_append_left (by omega)];exact t0,⟨c0,by omega⟩,⟨d0,by omega⟩,aq (aM _ _),⟨by omega,by omega,by omega,by omega⟩⟩
theorem AJ (s:S)(env:En){Q:AV->AV->S->Prop}(k:Q (.ref s.length) (.ref (s.length+14)) (s++mid s.length V0 V0)):(lG 9 bE env s).wp λ v s1=>(cM [] s1).wp λ w s2=>Q v w s2:=by
 have e:=zi (s++[.ins 9 (qm s.length 182),.dK [],.dK [],.dK [],.dK [],.dK [],.lst [],.lst []]) (B:=s.length) (by simp)
 rw[List.append_assoc]at e
 rw[aB (EC s env),aB e]
 exact k
theorem Qb (l:List Str)(lo hi:Option Int):∃ l':List Str,i_ (l.map AV.str) lo hi=l'.map AV.str/\l'=i_ l lo hi:=by
 refine⟨_,?_,rfl⟩
 unfold i_;rw[List.length_map,<-List.map_drop,<-List.map_take]
theorem Fq {α:Type}{l:List α}{lo hi:Option Int}{x:α}(h:x∈i_ l lo hi):x∈l:=by
 unfold i_ at h
 exact List.mem_of_mem_drop (List.mem_of_mem_take h)
theorem IE (ns:List Int):(qc [.sq (ns.map AV.int)] (tabS [(20,"by_days.<locals>.<lambda>")])).wp λ v _=>v=.bl true:=by
 have S9:Cl (tabS [(20,"by_days.<locals>.<lambda>")]):=rfl
 unfold qc Co
 walk_at "w"
 refine(Cn ns S9).mono ?_
 rintro _ s0 ⟨c,d,e0,rfl,es,D0,c0,d0⟩
 have t0:s0[0]? = some (.tab 20 oB):=by rw[es];rfl
 have c0:0 < c:=c0
 have d0:0 < d:=d0
 clear es
 refine(uD D0 (by omega)).mono ?_
 rintro _ s1 ⟨j,names,rfl,hj,l1,ln,nm,nd,D1,G1⟩
 obtain⟨D2,K2,al⟩:=G1.cut D0 D1
 have t2:(s1.take s0.length)[0]? = some (.tab 20 oB):=by rw[K2.get 0 (by omega) (by omega)];exact t0
 simp only[↓WS,↓WE,↓WV,Lq,af,UU,Nat.reduceSub,↓reduceIte,l1,hj,al,cg]
 generalize s1.take s0.length=s2 at D2 K2 t2 ⊢
 refine AJ _ _ ?_
 have H:=Ci (names:=names) D2 t2 c0 d0
 have n0:s2.length < (s2++[AO.lst (names.map AV.str)]).length:=by simp
 generalize hB:(s2++[AO.lst (names.map AV.str)]).length=B at H n0 ⊢
 generalize s2++[AO.lst (names.map AV.str)]++mid B V0 V0=s3 at H ⊢
 generalize s2.length=nl at H n0 ⊢
 refine sx H.JR Cr (by omega) ?_
 rw[fj]
 dsimp only
 rw[if_neg (by decide)]
 obtain⟨n2,SY,ee⟩:=Qb names none (some 2)
 have e2:Aw (.ref nl) none (some 2) s3=.ok (.ref s3.length) (s3++[AO.lst (n2.map AV.str)]):=by
  show(need (ak s3 nl) λ xs=>R.ok (AV.ref s3.length) (s3++[AO.lst (i_ xs none (some 2))]))=_
  rw[H.nm,aj,SY]
 rw[aB e2]
 have H1:=H.app (e:=[AO.lst (n2.map AV.str)]) (H.dr.cl.add (by simp only[List.all_cons,List.all_nil,AO.low,Bool.and_true];exact cg _ _))
 refine xD H1.JR (aM _ _) (λ x hx=>nm x (Fq (ee ▸ hx))) λ e ce=>?_
 have H2:=H1.app ce
 clear H1 H
 generalize s3++[AO.lst (n2.map AV.str)]++e=s4 at H2 ⊢
 rw[fj]
 dsimp only
 rw[if_neg (by decide),lX]
 refine⟨⟨by omega,by omega⟩,?_⟩
 refine nG (λ xs env st=>∃ (x3:Option AV) (m n z:Nat) (V:Wl),xs.length+z=2/\m<=30 * z/\n<=100000 * z+1000/\env=[some (.sq (ns.map AV.int)),some (.ref d),some (.ref nl),x3,some (.ref B),some (.ref (B+14))]/\yM m V/\LS c d n B nl names V V st) ?_ ?_ ?_ _ _ _ ⟨none,0,20,0,V0,rfl,by omega,by omega,rfl,Cr,H2⟩
 ·rintro _ _ st _ p hp;cases hp
 ·rintro env st _;exact trivial
 ·rintro v r env st ⟨x3,m,n,z,V,hz,hm,hn,rfl,ok,h⟩
  have hz:r.length+1+z=2:=hz
  walk_at "w"
  have c1:Cl (st++[AO.lst [AV.str "person",AV.str "work",AV.str "half"]]):=h.dr.cl.add (by simp[AO.low,aG,AV.low])
  have h1:=h.app c1
  have w1:Wk c d B st (st++[AO.lst [AV.str "person",AV.str "work",AV.str "half"]]):=(Gk.app c d st _).wk B
  have lw:=aM st [AV.str "person",AV.str "work",AV.str "half"]
  generalize st++[AO.lst [AV.str "person",AV.str "work",AV.str "half"]]=FL at h1 w1 lw ⊢
  refine(gF h1.dr (by omega) (by omega) (qD (by omega) (by omega))).mono ?_
  rintro _ s5 ⟨q,rfl,q0,q1,D5,K5⟩
  have h5:=h1.kp K5 D5
  have hl:=h.len
  have RU:ak s5 st.length=some (([("person":Str),"work","half"]).map AV.str):=K5.gk.lst (n:=0) (by have:=h.c0;omega) (by have:=h.d0;omega) lw
  obtain⟨many,em⟩:∃ many:Nat,(10+q:Int)=many:=⟨(10+q).toNat,by omega⟩
  have e5:cZ (.int 10) (.int q) s5=.ok (.int many) s5:=by rw[<-em];rfl
  rw[aB e5]
  have w5:=xP (many:=many) h5 ok (by omega) (by omega) (by omega) (by omega) nm RU hl (by show 0 < 3;omega) (by show 3<=1000;omega) (by
   intro w hw
   simp only[List.mem_cons,List.not_mem_nil,or_false]at hw
   unfold vn
   rcases hw with rfl|rfl|rfl
   ·exact .inl rfl
   ·exact .inr (.inl rfl)
   ·exact .inr (.inr (.inl rfl)))
  refine⟨rfl,?_⟩
  generalize cx [.ref d,.ref B,.ref (B+14),.ref nl,.ref st.length,.int many] s5=rr at w5 ⊢
  refine w5.to ?_
  rintro _ s6 ⟨rfl,V6,Nq,h6,w6⟩
  obtain⟨h7,Tf⟩:=h.cut ((w1.trans (K5.wk B)).trans w6) h6 Nq.kf
  refine⟨⟨Tf,rfl⟩,?_⟩
  generalize s6.take st.length=s7 at h7 ⊢
  rw[fj]
  dsimp only
  rw[if_neg (by decide)]
  have c8:Cl (s7++[AO.lst [AV.str "",AV.str " ",AV.str "A",AV.str "abcdefghi",AV.str "1/2",AV.str "a b"]]):=h7.dr.cl.add (by simp[AO.low,aG,AV.low])
  have h8:=h7.app c8
  have e8:=xF h8.nm (aM s7 _) (by rw[List.length_map,ln];decide)
  have e9:names.map AV.str++[AV.str "",AV.str " ",AV.str "A",AV.str "abcdefghi",AV.str "1/2",AV.str "a b"]=(names++[("":Str)," ","A","abcdefghi","1/2","a b"]).map AV.str:=by rw[List.map_append];rfl
  rw[e9]at e8
  rw[aB e8]
  have h9:=h8.app (e:=[AO.lst ((names++[("":Str)," ","A","abcdefghi","1/2","a b"]).map AV.str)]) (h8.dr.cl.add (by simp only[List.all_cons,List.all_nil,AO.low,Bool.and_true];exact cg _ _))
  refine xD h9.JR (aM _ _) ?_ λ e ce=>?_
  ·intro x hx
   rcases List.mem_append.mp hx with hx|hx
   ·exact nm x hx
   ·simp only[List.mem_cons,List.not_mem_nil,or_false]at hx
    rcases hx with rfl|rfl|rfl|rfl|rfl|rfl<;>decide
  refine⟨⟨by rw[List.append_assoc,List.append_assoc];exact List.take_left,by simp[AV.low]⟩,?_⟩
  rw[fj]
  dsimp only
  rw[if_neg (by decide)]
  refine xY h7.JR Nq (by omega) ?_
  refine sx h7.JR Nq (by omega) ?_
  rw[fj]
  dsimp only
  rw[if_neg (by decide)]
  exact⟨_,m+many,_,z+1,V6,by omega,by omega,by omega,rfl,Nq,h7⟩
end Ro
namespace PySem.W.Fast
theorem tw7339668823962291236:True:=⟨⟩
theorem tw3420154231680360824:True:=⟨⟩
theorem tw11787575229647107532:True:=⟨⟩
theorem tw12667942022015225006:True:=⟨⟩
theorem tw7273640347547593052:True:=⟨⟩
theorem tw5392434454146057565:True:=⟨⟩
theorem tw13592099204034256945:True:=⟨⟩
theorem tw7967064508153276655:True:=⟨⟩
theorem tw16769087222124579600:True:=⟨⟩
theorem tw4521727809418717772:True:=⟨⟩
theorem tw2954216419851271038:True:=⟨⟩
theorem tw10523626330954309421:True:=⟨⟩
theorem tw3722770999221123798:True:=⟨⟩
theorem tw13691047019554059533:True:=⟨⟩
theorem tw1781775348558041105:True:=⟨⟩
theorem tw16001725688419885645:True:=⟨⟩
theorem tw3245001261815538280:True:=⟨⟩
theorem tw8518457611314716713:True:=⟨⟩
theorem tw12783735203508385426:True:=⟨⟩
theorem tw15769133534146166689:True:=⟨⟩
theorem tw15895632341004141535:True:=⟨⟩
theorem tw16808482308872370540:True:=⟨⟩
theorem tw12561191541443633249:True:=⟨⟩
theorem tw4511412095530595949:True:=⟨⟩
theorem tw7913683543681221203:True:=⟨⟩
theorem tw6206858301611653510:True:=⟨⟩
theorem tw4715020142064631130:True:=⟨⟩
theorem tw10215475583217366985:True:=⟨⟩
theorem tw7755741769875986486:True:=⟨⟩
theorem tw17587001775147859108:True:=⟨⟩
theorem tw9191848630438656261:True:=⟨⟩
theorem tw12201800649683112236:True:=⟨⟩
theorem tw12894087064141235989:True:=⟨⟩
theorem tw7039257361271695843:True:=⟨⟩
theorem tw7308710455644129585:True:=⟨⟩
theorem tw7890091576745706248:True:=⟨⟩
theorem tw537181104175143998:True:=⟨⟩
theorem tw17592318070324362696:True:=⟨⟩
theorem tw9750233471754913675:True:=⟨⟩
theorem tw5224761585908290024:True:=⟨⟩
theorem tw13003477275377100733:True:=⟨⟩
theorem tw9124767592691423125:True:=⟨⟩
theorem tw8864682168892047096:True:=⟨⟩
theorem tw14579348366618942366:True:=⟨⟩
theorem tw5457918275913824094:True:=⟨⟩
theorem tw6188878073407991087:True:=⟨⟩
theorem tw7780702049736219091:True:=⟨⟩
theorem tw17175629663591225521:True:=⟨⟩
theorem tw2515805738331516118:True:=⟨⟩
theorem tw5538602261900876236:True:=⟨⟩
theorem tw8625119167865021074:True:=⟨⟩
theorem tw2271144970714339597:True:=⟨⟩
theorem tw16389771193300221400:True:=⟨⟩
theorem tw2836118234541780343:True:=⟨⟩
theorem tw7110336637174307315:True:=⟨⟩
theorem tw16201406550633431205:True:=⟨⟩
theorem tw17795108718840199770:True:=⟨⟩
theorem tw2906816312236339198:True:=⟨⟩
theorem tw6134060125248677092:True:=⟨⟩
theorem tw3572848269813066608:True:=⟨⟩
theorem tw12425991556420022418:True:=⟨⟩
theorem tw14069401358457733460:True:=⟨⟩
theorem tw14476098856396392047:True:=⟨⟩
theorem tw2303510338905776664:True:=⟨⟩
theorem tw12658240212391002280:True:=⟨⟩
theorem tw576885543308129392:True:=⟨⟩
theorem tw7031253903565589201:True:=⟨⟩
theorem tw1499950705976611814:True:=⟨⟩
theorem tw667693035348000415:True:=⟨⟩
theorem tw4895224525642628904:True:=⟨⟩
theorem tw7431937460433522648:True:=⟨⟩
theorem tw3450154119390913663:True:=⟨⟩
theorem tw7684225010165667079:True:=⟨⟩
theorem tw15677495868733536363:True:=⟨⟩
theorem tw11209503464354164110:True:=⟨⟩
theorem tw17452463480808134004:True:=⟨⟩
theorem tw15953410637044421109:True:=⟨⟩
theorem tw18179657343461163584:True:=⟨⟩
theorem tw18349636122949332377:True:=⟨⟩
theorem tw14550642753161154465:True:=⟨⟩
theorem tw1419511750613399605:True:=⟨⟩
theorem tw14478154143303754778:True:=⟨⟩
theorem tw1083550321430204556:True:=⟨⟩
theorem tw14005825029892246441:True:=⟨⟩
theorem tw6797458216853152269:True:=⟨⟩
theorem tw9546821459795531304:True:=⟨⟩
theorem tw2607720348854199963:True:=⟨⟩
theorem tw2619523497555659515:True:=⟨⟩
theorem tw13953029888630704892:True:=⟨⟩
theorem tw8577886539032867954:True:=⟨⟩
theorem tw2761971653716170746:True:=⟨⟩
theorem tw2921575947732599389:True:=⟨⟩
theorem tw18434819549136523916:True:=⟨⟩
theorem tw13588225913952140619:True:=⟨⟩
theorem tw12469121517565740871:True:=⟨⟩
theorem tw16185285760511135487:True:=⟨⟩
theorem tw1113320477258774040:True:=⟨⟩
theorem tw9053636506893958620:True:=⟨⟩
theorem tw8821439857102839654:True:=⟨⟩
theorem tw5992740410351313264:True:=⟨⟩
theorem tw3376130434379721463:True:=⟨⟩
theorem tw14347272414869300198:True:=⟨⟩
theorem tw9612024632161569395:True:=⟨⟩
theorem tw2970049486498064016:True:=⟨⟩
theorem tw15027306695335137804:True:=⟨⟩
theorem tw12939700546436861185:True:=⟨⟩
theorem tw5662311379084328944:True:=⟨⟩
theorem tw749676602658859516:True:=⟨⟩
theorem tw18037452713811629785:True:=⟨⟩
theorem tw6783391213575233474:True:=⟨⟩
theorem tw12040156623052656013:True:=⟨⟩
theorem tw13187313567402633915:True:=⟨⟩
theorem tw11740475694093221786:True:=⟨⟩
theorem tw943544381636831137:True:=⟨⟩
theorem tw11400189431653555217:True:=⟨⟩
theorem tw5759042237278531909:True:=⟨⟩
theorem tw4395889005767064632:True:=⟨⟩
theorem tw17128247098417847975:True:=⟨⟩
theorem tw12119271105360097404:True:=⟨⟩
theorem tw10539752896981603402:True:=⟨⟩
theorem tw10137423918844089430:True:=⟨⟩
theorem tw3786348611269239354:True:=⟨⟩
theorem tw641872509564134279:True:=⟨⟩
theorem tw3860922590766004795:True:=⟨⟩
theorem tw2010210164504475773:True:=⟨⟩
theorem tw1827305843007551666:True:=⟨⟩
theorem tw3196085437332030320:True:=⟨⟩
theorem tw16145475588310480545:True:=⟨⟩
theorem tw16406597219588436018:True:=⟨⟩
theorem tw10152461318503223788:True:=⟨⟩
theorem tw7371357724997400546:True:=⟨⟩
theorem tw3427373569663487418:True:=⟨⟩
theorem tw15191361149143007076:True:=⟨⟩
theorem tw11075300425679381737:True:=⟨⟩
theorem tw3697746697333242150:True:=⟨⟩
theorem tw3670960908740706175:True:=⟨⟩
theorem tw8822698068441377581:True:=⟨⟩
theorem tw13695543222752431476:True:=⟨⟩
theorem tw15993444606469461068:True:=⟨⟩
theorem tw14447165286438945403:True:=⟨⟩
theorem tw5563125826737271736:True:=⟨⟩
theorem tw138552323356901752:True:=⟨⟩
theorem tw14419770478623180009:True:=⟨⟩
theorem tw1663056607447886173:True:=⟨⟩
theorem tw1217880743525917225:True:=⟨⟩
theorem tw9467327255911222654:True:=⟨⟩
theorem tw15445141589029264786:True:=⟨⟩
theorem tw2488475066096850617:True:=⟨⟩
theorem tw1336497576007315305:True:=⟨⟩
theorem tw15649083752530061128:True:=⟨⟩
theorem tw13212109995079251539:True:=⟨⟩
theorem tw12542129072017753098:True:=⟨⟩
theorem tw640413109632013650:True:=⟨⟩
theorem tw12119484369526258386:True:=⟨⟩
theorem tw5913742520785244595:True:=⟨⟩
theorem tw4830593655102319600:True:=⟨⟩
theorem tw12415905469940861246:True:=⟨⟩
theorem tw10346079966767440229:True:=⟨⟩
theorem tw9159167969042701017:True:=⟨⟩
theorem tw17785575540490300077:True:=⟨⟩
end PySem.W.Fast
open PySem PySem.W PyProof.Rows
set_option maxRecDepth 100000 in
set_option maxHeartbeats 0 in
theorem PySem.Challenge.cw_royaltree_k12_people_and_works_holds : PySem.Challenge.rw_royaltree_k12_people_and_works.Holds := by
 w_on;o_law;k_head;(case hw=>w_witness2)
 k_fill
 refine Ro.J0 (l:=PySem.Challenge.rw_royaltree_k12_people_and_works) _ [(20,"by_days.<locals>.<lambda>")] Ro.qc 12 (by decide) ⟨rfl,by decide,by decide⟩ Ro.IE rfl rfl (λ w h Y=>PySem.W.km_in_of Y) (λ w h Y=>PySem.W.km_tabs_of Y) ?TC ?TK ?F
 case TC=>
  intro w h KX
  refine List.forall_mem_cons.mpr ⟨?_,λ _ z=>nomatch z⟩
  refine' Ro.J7 (x:="by_days") (st:=Ro.top 14) ?a ?l ?c;(case a=>k_is);(case l=>k_is);(case c=>first|k_is|kernel_rfl|rfl)
 case TK=>
  intro w h KX
  refine List.forall_mem_cons.mpr ⟨?_,λ _ z=>nomatch z⟩
  first|k_is|kernel_rfl|rfl
 case F=>
  intro w mg fa h KX G LP
  refine' Ro.Jj KX G LP ?x0 ?x1 ?x2 ?x3 ?x4 ?x5 ?x6 ?x7 ?x8 ?b ?cJ ?pb ?o_ ?lg ?gO ?dj ?o9 ?aS ?fQ ?gM ?cI ?bt ?o8 ?jd ?o7 ?bu ?fB ?d0 ?d1 ?d2 ?d3 ?d4 ?d5 ?d6 ?d7 ?d8 ?d9 ?M0 ?MZ ?MY ?MX ?MW ?MV ?MU ?MT ?MS ?MR ?MQ ?MP ?MO ?MN ?MM ?ML ?MK ?MJ ?MI ?MH ?MG ?MF ?ME ?MD ?MC ?MB ?MA ?Mz ?My ?Mx ?Mw
  (case x0=>(refine' Ro.lV KX G ?a ?l ?n ?s ?k ?g ?h ?j ?cn ?ct ?i;(case a=>k_is);(case l=>k_is);(case n=>k_is);(case s=>first|rfl|decide +kernel);(case k=>k_is);(case g=>k_is);(case h=>k_is);(case j=>k_is);(case cn=>k_is);(case ct=>k_is);(case i=>first|rfl|decide +kernel)))
  (case x1=>(refine' Ro.lV KX G ?a ?l ?n ?s ?k ?g ?h ?j ?cn ?ct ?i;(case a=>k_is);(case l=>k_is);(case n=>k_is);(case s=>first|rfl|decide +kernel);(case k=>k_is);(case g=>k_is);(case h=>k_is);(case j=>k_is);(case cn=>k_is);(case ct=>k_is);(case i=>first|rfl|decide +kernel)))
  (case x2=>(refine' Ro.lV KX G ?a ?l ?n ?s ?k ?g ?h ?j ?cn ?ct ?i;(case a=>k_is);(case l=>k_is);(case n=>k_is);(case s=>first|rfl|decide +kernel);(case k=>k_is);(case g=>k_is);(case h=>k_is);(case j=>k_is);(case cn=>k_is);(case ct=>k_is);(case i=>first|rfl|decide +kernel)))
  (case x3=>(refine' Ro.lV KX G ?a ?l ?n ?s ?k ?g ?h ?j ?cn ?ct ?i;(case a=>k_is);(case l=>k_is);(case n=>k_is);(case s=>first|rfl|decide +kernel);(case k=>k_is);(case g=>k_is);(case h=>k_is);(case j=>k_is);(case cn=>k_is);(case ct=>k_is);(case i=>first|rfl|decide +kernel)))
  (case x4=>(refine' Ro.lV KX G ?a ?l ?n ?s ?k ?g ?h ?j ?cn ?ct ?i;(case a=>k_is);(case l=>k_is);(case n=>k_is);(case s=>first|rfl|decide +kernel);(case k=>k_is);(case g=>k_is);(case h=>k_is);(case j=>k_is);(case cn=>k_is);(case ct=>k_is);(case i=>first|rfl|decide +kernel)))
  (case x5=>(refine' Ro.lV KX G ?a ?l ?n ?s ?k ?g ?h ?j ?cn ?ct ?i;(case a=>k_is);(case l=>k_is);(case n=>k_is);(case s=>first|rfl|decide +kernel);(case k=>k_is);(case g=>k_is);(case h=>k_is);(case j=>k_is);(case cn=>k_is);(case ct=>k_is);(case i=>first|rfl|decide +kernel)))
  (case x6=>(refine' Ro.lV KX G ?a ?l ?n ?s ?k ?g ?h ?j ?cn ?ct ?i;(case a=>k_is);(case l=>k_is);(case n=>k_is);(case s=>first|rfl|decide +kernel);(case k=>k_is);(case g=>k_is);(case h=>k_is);(case j=>k_is);(case cn=>k_is);(case ct=>k_is);(case i=>first|rfl|decide +kernel)))
  (case x7=>(refine' Ro.lV KX G ?a ?l ?n ?s ?k ?g ?h ?j ?cn ?ct ?i;(case a=>k_is);(case l=>k_is);(case n=>k_is);(case s=>first|rfl|decide +kernel);(case k=>k_is);(case g=>k_is);(case h=>k_is);(case j=>k_is);(case cn=>k_is);(case ct=>k_is);(case i=>first|rfl|decide +kernel)))
  (case x8=>(refine' Ro.lV KX G ?a ?l ?n ?s ?k ?g ?h ?j ?cn ?ct ?i;(case a=>k_is);(case l=>k_is);(case n=>k_is);(case s=>first|rfl|decide +kernel);(case k=>k_is);(case g=>k_is);(case h=>k_is);(case j=>k_is);(case cn=>k_is);(case ct=>k_is);(case i=>first|rfl|decide +kernel)))
  (case b=>(refine' Ro.M9 (nm:="Book") ?ba ?bp ?bd ?bo ?bs ?bn;(case ba=>k_is);(case bp=>k_is);(case bd=>k_is);(case bo=>k_is);(case bs=>k_is);(case bn=>exact List.forall_mem_cons.mpr ⟨by k_is,List.forall_mem_cons.mpr ⟨by k_is,List.forall_mem_cons.mpr ⟨by k_is,List.forall_mem_cons.mpr ⟨by k_is,List.forall_mem_cons.mpr ⟨by k_is,List.forall_mem_cons.mpr ⟨by k_is,List.forall_mem_cons.mpr ⟨by k_is,List.forall_mem_cons.mpr ⟨by k_is,Ro.HK⟩⟩⟩⟩⟩⟩⟩⟩)))
  (case cJ=>k_is)
  (case pb=>k_is)
  (case o_=>k_is)
  (case lg=>k_is)
  (case gO=>k_is)
  (case dj=>k_is)
  (case o9=>k_is)
  (case aS=>k_is)
  (case fQ=>k_is)
  (case gM=>k_is)
  (case cI=>k_is)
  (case bt=>k_is)
  (case o8=>k_is)
  (case jd=>k_is)
  (case o7=>k_is)
  (case bu=>(refine' Ro.EJ (x:="FIRST_HALF_DAYS") (v:=.int 182) KX G ?a ?r ?w;(case a=>k_is);(case r=>exact⟨_,rfl⟩);(case w=>exact λ ρ H=>by unfold Mm.VR;rfl)))
  (case fB=>(refine' Ro.IG (x:="NOTHING") (vs:=[.int 0,.int 1]) KX G ?a ?l ?v ?s ?w;(case a=>k_is);(case l=>k_is);(case v=>exact .cons ⟨_,rfl⟩ (.cons ⟨_,rfl⟩ (.nil)));(case s=>decide);(case w=>exact λ ρ H=>.cons (by unfold Mm.VR;rfl) (.cons (by unfold Mm.VR;rfl) (.nil)))))
  (case d0=>(refine' Ro.Jm KX G rfl ?a ?l ?c ?k ?h;(case a=>k_is);(case l=>k_is);(case c=>k_is);(case k=>k_is);(case h=>first|k_is|kernel_rfl|rfl)))
  (case d1=>(refine' Ro.Jn KX G rfl ?g ?a ?l ?c ?k ?f ?m ?kc;(case g=>k_is);(case a=>k_is);(case l=>k_is);(case c=>k_is);(case k=>k_is);(case f=>k_is);(case m=>k_is);(case kc=>k_is)))
  (case d2=>(refine' Ro.cW rfl ?a ?l ?c ?k ?f;(case a=>k_is);(case l=>k_is);(case c=>k_is);(case k=>k_is);(case f=>k_is)))
  (case d3=>(refine' Ro.cW rfl ?a ?l ?c ?k ?f;(case a=>k_is);(case l=>k_is);(case c=>k_is);(case k=>k_is);(case f=>k_is)))
  (case d4=>(refine' Ro.cW rfl ?a ?l ?c ?k ?f;(case a=>k_is);(case l=>k_is);(case c=>k_is);(case k=>k_is);(case f=>k_is)))
  (case d5=>(refine' Ro.cW rfl ?a ?l ?c ?k ?f;(case a=>k_is);(case l=>k_is);(case c=>k_is);(case k=>k_is);(case f=>k_is)))
  (case d6=>(refine' Ro.cW rfl ?a ?l ?c ?k ?f;(case a=>k_is);(case l=>k_is);(case c=>k_is);(case k=>k_is);(case f=>k_is)))
  (case d7=>(refine' Ro.cW rfl ?a ?l ?c ?k ?f;(case a=>k_is);(case l=>k_is);(case c=>k_is);(case k=>k_is);(case f=>k_is)))
  (case d8=>(refine' Ro.cW rfl ?a ?l ?c ?k ?f;(case a=>k_is);(case l=>k_is);(case c=>k_is);(case k=>k_is);(case f=>k_is)))
  (case d9=>(refine' Ro.cW rfl ?a ?l ?c ?k ?f;(case a=>k_is);(case l=>k_is);(case c=>k_is);(case k=>k_is);(case f=>k_is)))
  (case M0=>(refine' Ro.cW rfl ?a ?l ?c ?k ?f;(case a=>k_is);(case l=>k_is);(case c=>k_is);(case k=>k_is);(case f=>k_is)))
  (case MZ=>(refine' Ro.cW rfl ?a ?l ?c ?k ?f;(case a=>k_is);(case l=>k_is);(case c=>k_is);(case k=>k_is);(case f=>k_is)))
  (case MY=>(refine' Ro.cW rfl ?a ?l ?c ?k ?f;(case a=>k_is);(case l=>k_is);(case c=>k_is);(case k=>k_is);(case f=>k_is)))
  (case MX=>(refine' Ro.cW rfl ?a ?l ?c ?k ?f;(case a=>k_is);(case l=>k_is);(case c=>k_is);(case k=>k_is);(case f=>k_is)))
  (case MW=>(refine' Ro.cW rfl ?a ?l ?c ?k ?f;(case a=>k_is);(case l=>k_is);(case c=>k_is);(case k=>k_is);(case f=>k_is)))
  (case MV=>(refine' Ro.cW rfl ?a ?l ?c ?k ?f;(case a=>k_is);(case l=>k_is);(case c=>k_is);(case k=>k_is);(case f=>k_is)))
  (case MU=>(refine' Ro.cW rfl ?a ?l ?c ?k ?f;(case a=>k_is);(case l=>k_is);(case c=>k_is);(case k=>k_is);(case f=>k_is)))
  (case MT=>(refine' Ro.cW rfl ?a ?l ?c ?k ?f;(case a=>k_is);(case l=>k_is);(case c=>k_is);(case k=>k_is);(case f=>k_is)))
  (case MS=>(refine' Ro.cW rfl ?a ?l ?c ?k ?f;(case a=>k_is);(case l=>k_is);(case c=>k_is);(case k=>k_is);(case f=>k_is)))
  (case MR=>(refine' Ro.cW rfl ?a ?l ?c ?k ?f;(case a=>k_is);(case l=>k_is);(case c=>k_is);(case k=>k_is);(case f=>k_is)))
  (case MQ=>(refine' Ro.dP KX G ?a ?l ?c ?k;(case a=>k_is);(case l=>k_is);(case c=>k_is);(case k=>k_is)))
  (case MP=>(refine' Ro.dP KX G ?a ?l ?c ?k;(case a=>k_is);(case l=>k_is);(case c=>k_is);(case k=>k_is)))
  (case MO=>(refine' Ro.dP KX G ?a ?l ?c ?k;(case a=>k_is);(case l=>k_is);(case c=>k_is);(case k=>k_is)))
  (case MN=>(refine' Ro.dP KX G ?a ?l ?c ?k;(case a=>k_is);(case l=>k_is);(case c=>k_is);(case k=>k_is)))
  (case MM=>(refine' Ro.dP KX G ?a ?l ?c ?k;(case a=>k_is);(case l=>k_is);(case c=>k_is);(case k=>k_is)))
  (case ML=>(refine' Ro.dP KX G ?a ?l ?c ?k;(case a=>k_is);(case l=>k_is);(case c=>k_is);(case k=>k_is)))
  (case MK=>(refine' Ro.dP KX G ?a ?l ?c ?k;(case a=>k_is);(case l=>k_is);(case c=>k_is);(case k=>k_is)))
  (case MJ=>(refine' Ro.dP KX G ?a ?l ?c ?k;(case a=>k_is);(case l=>k_is);(case c=>k_is);(case k=>k_is)))
  (case MI=>(refine' Ro.dP KX G ?a ?l ?c ?k;(case a=>k_is);(case l=>k_is);(case c=>k_is);(case k=>k_is)))
  (case MH=>(refine' Ro.dP KX G ?a ?l ?c ?k;(case a=>k_is);(case l=>k_is);(case c=>k_is);(case k=>k_is)))
  (case MG=>(refine' Ro.dP KX G ?a ?l ?c ?k;(case a=>k_is);(case l=>k_is);(case c=>k_is);(case k=>k_is)))
  (case MF=>(refine' Ro.dP KX G ?a ?l ?c ?k;(case a=>k_is);(case l=>k_is);(case c=>k_is);(case k=>k_is)))
  (case ME=>(refine' Ro.dP KX G ?a ?l ?c ?k;(case a=>k_is);(case l=>k_is);(case c=>k_is);(case k=>k_is)))
  (case MD=>(refine' Ro.dP KX G ?a ?l ?c ?k;(case a=>k_is);(case l=>k_is);(case c=>k_is);(case k=>k_is)))
  (case MC=>(refine' Ro.dP KX G ?a ?l ?c ?k;(case a=>k_is);(case l=>k_is);(case c=>k_is);(case k=>k_is)))
  (case MB=>(refine' Ro.dP KX G ?a ?l ?c ?k;(case a=>k_is);(case l=>k_is);(case c=>k_is);(case k=>k_is)))
  (case MA=>(refine' Ro.dP KX G ?a ?l ?c ?k;(case a=>k_is);(case l=>k_is);(case c=>k_is);(case k=>k_is)))
  (case Mz=>(refine' Ro.dP KX G ?a ?l ?c ?k;(case a=>k_is);(case l=>k_is);(case c=>k_is);(case k=>k_is)))
  (case My=>(refine' Ro.dP KX G ?a ?l ?c ?k;(case a=>k_is);(case l=>k_is);(case c=>k_is);(case k=>k_is)))
  (case Mx=>(refine' Ro.dP KX G ?a ?l ?c ?k;(case a=>k_is);(case l=>k_is);(case c=>k_is);(case k=>k_is)))
  (case Mw=>(refine' Ro.dP KX G ?a ?l ?c ?k;(case a=>k_is);(case l=>k_is);(case c=>k_is);(case k=>k_is)))
