import PyProof.Rows.All
import Wide.All
import OpenK.AllK
import Wide.FinOn
import Lean
import PyProof.EqAt
import PyProof.EqKinds
import PyProof.TupleCall
import PySem.Challenge.RW_royaltree_k16_keeps_and_halves
set_option Elab.async false
set_option linter.all false
set_option maxRecDepth 100000
namespace L2
open PySem PySem.Spec PyProof.Rows
abbrev Key:=Sum Int Str
def rb:Key->Value->Bool
 | .inl k,v=>Value.isInt k v
 | .inr x,v=>Value.isStrOf x v
def OX (w:World):Key->Int
 | .inl k=>hashInt k
 | .inr x=>hashStr w x
theorem cj:∀ {k:Key}{v:Value},rb k v=true->(∃ i t,k=Sum.inl i/\v=Value.int i t)∨(∃ x t,k=Sum.inr x/\v=Value.str x t)
 | .inl i,v,h=>by
  obtain⟨t,e⟩:=Value.isInt_shape (k:=i) (v:=v) h
  exact .inl ⟨i,t,rfl,e⟩
 | .inr x,v,h=>by
  obtain⟨t,e⟩:=Value.isStrOf_shape (x:=x) (v:=v) h
  exact .inr ⟨x,t,rfl,e⟩
theorem yo (i:Int)(t:Tok):rb (.inl i) (.int i t)=true:=by simp[rb,Value.isInt]
theorem yn (x:Str)(t:Tok):rb (.inr x) (.str x t)=true:=by simp[rb,Value.isStrOf]
theorem ID (a b:Int):decide ((Sum.inl a:Key)=Sum.inl b)=(a == b):=by
 by_cases e:a=b
 ·subst e;simp
 ·have h:¬ (Sum.inl a:Key)=Sum.inl b:=λ q=>e (Sum.inl.inj q)
  rw[decide_eq_false h]
  exact(beq_eq_false_iff_ne.mpr e).symm
theorem IA (a b:Str):decide ((Sum.inr a:Key)=Sum.inr b)=decide (a=b):=by
 by_cases e:a=b
 ·subst e;simp
 ·have h:¬ (Sum.inr a:Key)=Sum.inr b:=λ q=>e (Sum.inr.inj q)
  rw[decide_eq_false h,decide_eq_false e]
theorem IC (a:Int)(b:Str):decide ((Sum.inl a:Key)=Sum.inr b)=false:=decide_eq_false (λ q=>nomatch q)
theorem IB (a:Str)(b:Int):decide ((Sum.inr a:Key)=Sum.inl b)=false:=decide_eq_false (λ q=>nomatch q)
def bx (prog:Program)(w:World):PySem.KeyKind prog w Key where
 is:=rb
 hash:=OX w
 inj:=λ v a b ha hb=>by
  rcases cj ha with⟨i,t,rfl,rfl⟩|⟨x,t,rfl,rfl⟩
  ·rcases cj hb with⟨j,u,rfl,e⟩|⟨y,u,rfl,e⟩
   ·injection e with e1 _;rw[e1]
   ·exact nomatch e
  ·rcases cj hb with⟨j,u,rfl,e⟩|⟨y,u,rfl,e⟩
   ·exact nomatch e
   ·injection e with e1 _;rw[e1]
 byValue:=λ k v h=>by
  rcases cj h with⟨i,t,rfl,rfl⟩|⟨x,t,rfl,rfl⟩<;>rfl
 pyHash:=λ hv h=>by
  rcases cj hv with⟨i,t,rfl,rfl⟩|⟨x,t,rfl,rfl⟩
  ·exact wpAny_pyHash_int h
  ·exact wpAny_pyHash_str h
 eqBool:=λ hu hv h=>by
  rcases cj hu with⟨i,t,rfl,rfl⟩|⟨x,t,rfl,rfl⟩
  ·rcases cj hv with⟨j,u,rfl,rfl⟩|⟨y,u,rfl,rfl⟩
   ·rw[ID]at h;exact wpAny_eqBool_int h
   ·rw[IC]at h;exact SeqAt.EqAt.int_str i t y u _ _ _ _ h
  ·rcases cj hv with⟨j,u,rfl,rfl⟩|⟨y,u,rfl,rfl⟩
   ·rw[IB]at h;exact SeqAt.EqAt.str_int x t j u _ _ _ _ h
   ·rw[IA]at h;exact wpAny_eqBool_str h
 «strs»:=λ k x t v h=>by
  rcases cj h with⟨i,u,rfl,e⟩|⟨y,u,rfl,e⟩
  ·exact nomatch e
  ·injection e with e1 _
   subst e1
   cases v<;>rfl
theorem ux (prog:Program)(w:World)(i:Int)(t:Tok):(bx prog w).is (.inl i) (.int i t)=true:=yo i t
theorem uw (prog:Program)(w:World)(x:Str)(t:Tok):(bx prog w).is (.inr x) (.str x t)=true:=yn x t
end L2
namespace L2
open PySem PySem.Spec PyProof.Rows
inductive V where
 | aC|bl (b:Bool)|int (i:Int)|str (x:Str)|wb (b:Array UInt8)|F0 (b:UInt64)|ref (a:Addr)|ty (n:String)
 deriving DecidableEq
def RelV:V->Value->Prop
 | .aC,u=>u=Value.none
 | .bl b,u=>u=Value.bool b
 | .int i,u=>∃ t,u=Value.int i t
 | .str x,u=>∃ t,u=Value.str x t
 | .wb b,u=>∃ t,u=Value.bytes b t
 | .F0 b,u=>∃ t,u=Value.float b t
 | .ref a,u=>u=Value.ref a
 | .ty n,u=>u=Value.type n
abbrev Vals:List V->List Value->Prop:=Paired RelV
theorem Vals.length {xs:List V}{us:List Value}(r:Vals xs us):xs.length=us.length:=Paired.length r
theorem Vals.get:∀ {xs:List V}{us:List Value}{i:Nat}{x:V},Vals xs us->xs[i]? = some x->∃ u,us[i]? = some u/\RelV x u
 | _,_,_,_,.nil,e=>by simp at e
 | _,_,0,_,.cons r _,e=>by simp at e;subst e;exact⟨_,rfl,r⟩
 | _,_,i+1,x,.cons _ t,e=>by
  obtain⟨u,h1,h2⟩:=Vals.get (i:=i) (x:=x) t (by simpa using e)
  exact⟨u,by simpa using h1,h2⟩
theorem Vals.set {x:V}{u:Value}(r:RelV x u):∀ {xs:List V}{us:List Value}(i:Nat),Vals xs us->Vals (xs.set i x) (us.set i u)
 | _,_,_,.nil=>.nil
 | _,_,0,.cons _ t=>.cons r t
 | _,_,i+1,.cons q t=>.cons q (Vals.set r i t)
theorem Vals.append:∀ {xs ys:List V}{us ws:List Value},Vals xs us->Vals ys ws->Vals (xs++ys) (us++ws)
 | _,_,_,_,.nil,s=>s
 | _,_,_,_,.cons r t,s=>.cons r (Vals.append t s)
theorem Vals.take:∀ {xs:List V}{us:List Value}(n:Nat),Vals xs us->Vals (xs.take n) (us.take n)
 | _,_,0,_=>.nil
 | _,_,_+1,.nil=>.nil
 | _,_,n+1,.cons r t=>.cons r (Vals.take n t)
theorem Vals.drop:∀ {xs:List V}{us:List Value}(n:Nat),Vals xs us->Vals (xs.drop n) (us.drop n)
 | _,_,0,r=>r
 | _,_,_+1,.nil=>.nil
 | _,_,n+1,.cons _ t=>Vals.drop n t
def jH:Option V->Option Value->Prop
 | some v,some u=>RelV v u
 | none,none=>True
 | _,_=>False
def KV {κ:Type}:List (κ × V)->List (κ × Value)->Prop:=Paired λ(p:κ × V) (q:κ × Value)=>p.1=q.1/\RelV p.2 q.2
def kV:Key->V
 | .inl i=>.int i
 | .inr x=>.str x
inductive HO where
 | lst (xs:List V)
 | tup (xs:List V)
 | dK (kvs:List (Key × V))|dT (kvs:List (List Key × V))
 | set (S:Int->Bool) (n:Nat)
 | ins (C dx:Addr) (fs:List (Str × V))
 | own (x:Addr)
 | xd (fs:List (Str × V))
 | met (f x:Addr)
 | Kd (lo hi:Int)
 | ll (o:Obj) (u:HO)
 | oA (ps:Array Value)
 | ext (φ:Heap->Prop)
abbrev Hp:=Addr->Option HO
def upd (H:Hp)(a:Addr)(o:HO):Hp:=λ b=>if b=a then some o else H b
theorem aw {H:Hp}{a:Addr}{o:HO}:upd H a o a=some o:=by unfold upd;rw[if_pos rfl]
theorem ah {H:Hp}{a b:Addr}{o:HO}(h:b≠a):upd H a o b=H b:=by unfold upd;rw[if_neg h]
theorem wy {H:Hp}{a:Addr}{o u:HO}:upd (upd H a o) a u=upd H a u:=by
 funext b;unfold upd;split<;>rfl
theorem pI {H:Hp}{a b:Addr}{o u:HO}(h:H a=some o)(h':H b=some u)(d:o≠u):a≠b:=by
 intro e;subst e;rw[h]at h';exact d (Option.some.inj h')
theorem aJ {H:Hp}{a b:Addr}{o:HO}(h:H a=some o)(h':H b=none):a≠b:=by
 intro e;subst e;rw[h]at h';cases h'
section
variable (P:Program)(w:World)
def bP (H:Hp)(h:Heap)(a:Addr):HO->Prop
 | .lst xs=>xs.length<=sizeLine/\∃ (its:List Value) (n:Nat),Vals xs its/\h.get? a=some { cls:=.type "list",data:=.seq its.toArray n }
 | .tup xs=>xs.length<=sizeLine/\∃ its:List Value,Vals xs its/\IsTup h a its.toArray
 | .dK kvs=>kvs.length<=sizeLine/\(a == sysModules)=false/\∃ vs,KV kvs vs/\h.DictOf (bx P w) a vs
 | .dT kvs=>kvs.length<=sizeLine/\(a == sysModules)=false/\∃ xs:List (List Key × Addr × Value),
   Paired (λ(p:List Key × V) (q:List Key × Addr × Value)=>p.1=q.1/\H q.2.1=some (.tup (p.1.map kV))/\RelV p.2 q.2.2) kvs xs/\
   ∃ o es ep,h.get? a=some o/\o.ExactDict/\o.data=.dict es ep/\es.toList=xs.map (entryOfKey (tupleKind (bx P w)))/\(xs.map (·.1)).Nodup
 | .set S n=>h.SetOf (intKind P w) a S n
 | .ins C dx fs=>H dx=some (.own a)/\fs.length<=1000/\dx≠a/\h.get? a=some (PySem.W.instObj C dx)/\
   ∃ mA,h.Ns1 dx mA/\(∀ f,jH (fs.lookup f) (mA f))/\PySem.Within mA (fs.map (·.1))
 | .own _=>∃ o,h.get? a=some o
 | .xd fs=>∃ mA,h.Ns1 a mA/\∀ f,jH (fs.lookup f) (mA f)
 | .Kd lo hi=>∃ t u v,h.get? a=some { cls:=.type "range",data:=.fields #[.int lo t,.int hi u,.int 1 v] }
 | .ll o u=>h.get? a=some o/\bP H h a u
 | .oA ps=>h.get? a=some { cls:=.none,data:=.fields ps }
 | .met f x=>h.get? a=some (PySem.W.methodObj (.ref f) (.ref x))
 | .ext φ=>φ h/\(∃ o,h.get? a=some o)/\∀ h1 h2:Heap,φ h1->(∀ o,h1.get? a=some o->h2.get? a=some o)->φ h2
def jI (H:Hp)(h:Heap):Prop:=∀ a o,H a=some o->bP P w H h a o
end
section
variable {P:Program}{w:World}{H H':Hp}{h h':Heap}{a:Addr}{o:HO}
theorem bP.lt (x:bP P w H h a o):a < h.objs.size:=by
 cases o with
 | lst xs=>obtain⟨_,_,_,_,e⟩:=x;exact Heap.lt_size e
 | tup xs=>obtain⟨_,_,_,p⟩:=x;exact p.lt
 | dK kvs=>obtain⟨_,_,_,_,o,_,_,e,_⟩:=x;exact Heap.lt_size e
 | dT kvs=>obtain⟨_,_,_,_,o,_,_,e,_⟩:=x;exact Heap.lt_size e
 | set S n=>obtain⟨o,_,_,_,e,_⟩:=x;exact Heap.lt_size e
 | ins C dx fs=>obtain⟨_,_,_,e,_⟩:=x;exact Heap.lt_size e
 | own y=>obtain⟨_,e⟩:=x;exact Heap.lt_size e
 | xd fs=>obtain⟨_,⟨_,_,_,e,_⟩,_⟩:=x;exact Heap.lt_size e
 | Kd lo hi=>obtain⟨_,_,_,e⟩:=x;exact Heap.lt_size e
 | ll ob u=>obtain⟨e,_⟩:=x;exact Heap.lt_size e
 | oA ps=>exact Heap.lt_size (show h.get? a=some _ from x)
 | met f y=>exact Heap.lt_size (show h.get? a=some _ from x)
 | ext φ=>obtain⟨_,⟨_,e⟩,_⟩:=x;exact Heap.lt_size e
theorem Paired.Io {α β:Type}{F G:α->β->Prop}:∀ {l₁:List α}{l₂:List β},Paired F l₁ l₂->(∀ a b,F a b->G a b)->Paired G l₁ l₂
 | _,_,.nil,_=>.nil
 | _,_,.cons r t,f=>.cons (f _ _ r) (Paired.Io t f)
theorem bP.ly (x:bP P w H h a o)(k:∀ b u,(b=a∨H b=some (.own a))->h.get? b=some u->h'.get? b=some u)
  (ho:∀ b,H b=some (.own a)->H' b=some (.own a)) (ht:∀ b xs,H b=some (.tup xs)->H' b=some (.tup xs)):bP P w H' h' a o:=by
 induction o with
 | lst xs=>obtain⟨z,its,n,r,e⟩:=x;exact⟨z,its,n,r,k _ _ (.inl rfl) e⟩
 | tup xs=>obtain⟨z,its,r,ob,e,c⟩:=x;exact⟨z,its,r,ob,k _ _ (.inl rfl) e,c⟩
 | dK kvs=>obtain⟨z,y,vs,r,ob,es,ep,e,c⟩:=x;exact⟨z,y,vs,r,ob,es,ep,k _ _ (.inl rfl) e,c⟩
 | dT kvs=>
  obtain⟨z,y,xs,r,ob,es,ep,e,c⟩:=x
  exact⟨z,y,xs,Paired.Io r λ p q z=>⟨z.1,ht _ _ z.2.1,z.2.2⟩,ob,es,ep,k _ _ (.inl rfl) e,c⟩
 | set S n=>obtain⟨ob,es,ep,t,e,c⟩:=x;exact⟨ob,es,ep,t,k _ _ (.inl rfl) e,c⟩
 | ins C dx fs=>
  obtain⟨d,z,ne,e,mA,⟨od,es,ep,e2,c⟩,r⟩:=x
  exact⟨ho _ d,z,ne,k _ _ (.inl rfl) e,mA,⟨od,es,ep,k _ _ (.inr d) e2,c⟩,r⟩
 | own y=>obtain⟨ob,e⟩:=x;exact⟨ob,k _ _ (.inl rfl) e⟩
 | xd fs=>obtain⟨mA,⟨od,es,ep,e,c⟩,r⟩:=x;exact⟨mA,⟨od,es,ep,k _ _ (.inl rfl) e,c⟩,r⟩
 | Kd lo hi=>obtain⟨t,u,v,e⟩:=x;exact⟨t,u,v,k _ _ (.inl rfl) e⟩
 | ll ob u ih=>obtain⟨e,q⟩:=x;exact⟨k _ _ (.inl rfl) e,ih q⟩
 | oA ps=>
  have e:h.get? a=some { cls:=.none,data:=.fields ps }:=x
  show h'.get? a=some { cls:=.none,data:=.fields ps }
  exact k a _ (.inl rfl) e
 | met f y=>
  have e:h.get? a=some (PySem.W.methodObj (.ref f) (.ref y)):=x
  show h'.get? a=some (PySem.W.methodObj (.ref f) (.ref y))
  exact k a _ (.inl rfl) e
 | ext φ=>obtain⟨p,⟨o,e⟩,st⟩:=x;exact⟨st _ _ p λ o q=>k _ _ (.inl rfl) q,⟨o,k _ _ (.inl rfl) e⟩,st⟩
theorem jI.lt (x:jI P w H h)(e:H a=some o):a < h.objs.size:=(x a o e).lt
theorem jI.fresh (x:jI P w H h)(e:h.objs.size<=a):H a=none:=by
 cases q:H a with
 | none=>rfl
 | some u=>exact absurd (Nat.lt_of_lt_of_le (x.lt q) e) (Nat.lt_irrefl _)
theorem jI.kept (x:jI P w H h)(k:∀ b u,h.get? b=some u->h'.get? b=some u):jI P w H h':=λ a o e=>
 (x a o e).ly (λ b u _ q=>k b u q) (λ _ q=>q) λ _ _ q=>q
theorem jI.laid (x:jI P w H h)(k:∀ b u,h.get? b=some u->h'.get? b=some u)(hp:h.objs.size<=a)(new:bP P w (upd H a o) h' a o):jI P w (upd H a o) h':=λ b u e=>by
 have hn:=x.fresh hp
 by_cases hb:b=a
 ·subst hb;rw[aw]at e;cases e;exact new
 ·rw[ah hb]at e
  exact(x b u e).ly (λ c v _ q=>k c v q) (λ c q=>by rw[ah (aJ q hn)];exact q) λ c xs q=>by rw[ah (aJ q hn)];exact q
end
def Rd (H:Hp)(a:Addr)(u:HO):Prop:=H a=some u∨∃ o,H a=some (.ll o u)
theorem Rd.ok {P:Program}{w:World}{H:Hp}{h:Heap}{a:Addr}{u:HO}(r:Rd H a u)(x:jI P w H h):bP P w H h a u:=by
 rcases r with r|⟨o,r⟩
 ·exact x a u r
 ·obtain⟨_,q⟩:=x a _ r
  exact q
def JJ:Option HO->Prop
 | some (.lst _)=>True
 | some (.dK _)=>True
 | some (.dT _)=>True
 | some (.set _ _)=>True
 | some (.ins _ _ _)=>True
 | some (.ext _)=>True
 | _=>False
section
variable {P:Program}{w:World}{H:Hp}{h h':Heap}{x e:Addr}{o':HO}
theorem jI.write (ok:jI P w H h)(mu:JJ (H x)) (he:e=x∨H e=some (.own x)) (k:∀ b u,b≠e->h.get? b=some u->h'.get? b=some u)(JD:∃ u,h'.get? e=some u)
  (new:bP P w (upd H x o') h' x o'):jI P w (upd H x o') h':=λ b u q=>by
 have KQ:∀ c y,H c=some (.own y)->c≠x:=λ c y r z=>by subst z;rw[r]at mu;exact mu
 have OJ:∀ c xs,H c=some (.tup xs)->c≠x:=λ c xs r z=>by subst z;rw[r]at mu;exact mu
 by_cases hb:b=x
 ·subst hb;rw[aw]at q;cases q;exact new
 ·rw[ah hb]at q
  by_cases ET:b=e
  ·have q':H b=some (.own x):=by
    rcases he with z|z
    ·exact absurd (ET.trans z) hb
    ·rw[ET];exact z
   rw[q]at q';cases q'
   obtain⟨v,hv⟩:=JD
   exact⟨v,by rw[ET];exact hv⟩
  ·refine(ok b u q).ly (λ c v hc r=>k c v ?_ r) (λ c r=>by rw[ah (KQ c b r)];exact r) λ c xs r=>by rw[ah (OJ c xs r)];exact r
   rcases hc with rfl|hc
   ·exact ET
   ·rintro rfl
    rcases he with z|z
    ·exact KQ c b hc z
    ·rw[hc]at z;cases z;exact hb rfl
end
structure Un (fs ex:List Addr)(H H':Hp)(h h':Heap):Prop where
 keep:∀ b o,h.get? b=some o->H b=none->b∉fs->b∉ex->h'.get? b=some o
 slot:∀ b o,h.get? b=some o->H b=none->b∈fs->b∉ex->∃ sl,h'.get? b=some { o with slots:=sl }
 free:∀ b o,h.get? b=some o->H b=none->b∉ex->H' b=none
 there:∀ b o,h.get? b=some o->b∉ex->∃ o',h'.get? b=some o'
 jE:∀ b xs,H b=some (.tup xs)->H' b=some (.tup xs)
 iJ:∀ b o u,H b=some (.ll o u)->H' b=some (.ll o u)
 o7:∀ b ps,H b=some (.oA ps)->∃ more,H' b=some (.oA (ps++more))
section
variable {fs L8 ex T3:List Addr}{H H1 H2:Hp}{h h1 h2 h':Heap}{a x e:Addr}{o:HO}
theorem Un.any (u:Un fs ex H H1 h h1){b:Addr}{ob:Obj}(q:h.get? b=some ob)(n:H b=none)(hx:b∉ex):∃ sl,h1.get? b=some { ob with slots:=sl }:=by
 by_cases hb:b∈fs
 ·exact u.slot b ob q n hb hx
 ·exact⟨ob.slots,u.keep b ob q n hb hx⟩
theorem Un.kept (k:∀ b u,h.get? b=some u->h'.get? b=some u):Un fs ex H H h h':=
 ⟨λ b ob q _ _ _=>k b ob q,λ b ob q _ _ _=>⟨ob.slots,k b ob q⟩,λ _ _ _ n _=>n,λ b ob q _=>⟨ob,k b ob q⟩,λ _ _ q=>q,λ _ _ _ q=>q,λ _ ps q=>⟨#[],by rw[q];simp⟩⟩
theorem Un.refl:Un fs ex H H h h:=Un.kept λ _ _ q=>q
theorem Un.laid (k:∀ b u,h.get? b=some u->h'.get? b=some u)(hp:h.objs.size<=a)(hn:H a=none):Un fs ex H (upd H a o) h h' where
 keep:=λ b u q _ _ _=>k b u q
 slot:=λ b u q _ _ _=>⟨u.slots,k b u q⟩
 free:=λ b u q n _=>by rw[ah (Nat.ne_of_lt (Nat.lt_of_lt_of_le (Heap.lt_size q) hp))];exact n
 there:=λ b u q _=>⟨u,k b u q⟩
 jE:=λ b xs q=>by rw[ah (aJ q hn)];exact q
 iJ:=λ b u xs q=>by rw[ah (aJ q hn)];exact q
 o7:=λ b ps q=>⟨#[],by rw[ah (aJ q hn),q];simp⟩
theorem Un.write (mu:JJ (H x)) (he:e=x∨H e=some (.own x)) (k:∀ b u,b≠e->h.get? b=some u->h'.get? b=some u)(JD:∃ u,h'.get? e=some u):Un fs ex H (upd H x o) h h':=by
 have hx:∀ b,H b=none->b≠x:=λ b n z=>by subst z;rw[n]at mu;exact mu
 have hb:∀ b,H b=none->b≠e:=λ b n z=>by
  subst z
  rcases he with r|r
  ·exact hx b n r
  ·rw[n]at r;cases r
 have hm:∀ b u,H b=some u->¬ JJ (some u)->b≠x:=λ b u q nm z=>by subst z;rw[q]at mu;exact nm mu
 refine⟨λ b u q n _ _=>k b u (hb b n) q,λ b u q n _ _=>⟨u.slots,k b u (hb b n) q⟩,λ b u q n _=>by rw[ah (hx b n)];exact n,λ b u q _=>?_,
  λ b xs q=>by rw[ah (hm b _ q λ z=>z)];exact q,λ b u xs q=>by rw[ah (hm b _ q λ z=>z)];exact q,λ b ps q=>⟨#[],by rw[ah (hm b _ q λ z=>z),q];simp⟩⟩
 by_cases ET:b=e
 ·subst ET;exact JD
 ·exact⟨u,k b u ET q⟩
end
def Cg (h:Heap)(H:Hp):List Addr:=(List.range h.objs.size).filter λ a=>(H a).isSome
def sO (h:Heap)(H:Hp):Heap:=PySem.W.hideAll h (Cg h H)
theorem yw (h:Heap)(H:Hp):(sO h H).objs.size=h.objs.size:=PySem.W.hideAll_size _ _
theorem Br {h:Heap}{H:Hp}{b:Addr}{o:Obj}(e:h.get? b=some o)(n:H b=none):(sO h H).get? b=some o:=
 PySem.W.hideAll_get _ e λ hm=>by
  have q:(H b).isSome=true:=(List.mem_filter.mp hm).2
  rw[n]at q;simp at q
theorem DQ {h:Heap}{H:Hp}{b:Addr}{o:Obj}(e:(sO h H).get? b=some o):h.get? b=some o/\H b=none:=by
 have e':h.get? b=some o:=PySem.W.of_hideAll (Cg h H) e
 refine⟨e',?_⟩
 cases q:H b with
 | none=>rfl
 | some x=>
  have hm:b∈Cg h H:=List.mem_filter.mpr ⟨List.mem_range.mpr (Heap.lt_size e'),by simp[q]⟩
  have z:(sO h H).get? b=none:=PySem.W.hideAll_none (Cg h H) hm
  rw[z]at e;cases e
def tD (g h:Heap)(L:Addr):List (Addr × Obj):=(List.range h.objs.size).filterMap λ a=>if a=L∨(g.get? a).isSome=true then none else (h.get? a).map λ o=>(a,o)
theorem nK {g h:Heap}{L a:Addr}{o:Obj}(h1:a≠L)(h2:g.get? a=none)(h3:h.get? a=some o):(a,o)∈tD g h L:=
 List.mem_filterMap.mpr ⟨a,List.mem_range.mpr (Heap.lt_size h3),by simp[h1,h2,h3]⟩
theorem pE {g h:Heap}{L:Addr}{p:Addr × Obj}(hp:p∈tD g h L):p.1≠L/\g.get? p.1=none/\h.get? p.1=some p.2:=by
 obtain⟨b,_,e⟩:=List.mem_filterMap.mp hp
 split at e
 ·cases e
 ·rename_i hn
  cases q:h.get? b with
  | none=>rw[q]at e;simp at e
  | some u=>
   rw[q]at e
   simp only[Option.map_some,Option.some.injEq]at e
   subst e
   refine⟨λ z=>hn (.inl z),?_,q⟩
   show g.get? b=none
   cases r:g.get? b with
   | none=>rfl
   | some v=>exact(hn (.inr (by simp[r]))).elim
theorem AA {g h:Heap}{L:Addr}:News g L h (tD g h L):=λ p hp=>let ⟨a,b,c⟩:=pE hp;⟨c,a,b⟩
end L2
namespace L2
open PySem PySem.Spec PyProof.Rows
structure Mod (K:PySem.W.Frag)(mg:Str->Option Value)(base:Heap):Prop where
 Lo:K.In base
 glob:base.Ns mainGlobals mg
 blt:∃ mb,base.Ns builtinsNs mb/\∀ x:Str,x≠"__name__"->mb x=bootBuiltins x
 nolimit:base.NoLimit
 Av:base.NoDigits
 bmain:∃ bm ob,mg "__builtins__"=some (.ref bm)/\bm≠builtinsNs/\base.get? bm=some ob/\ob.cls=.type "module"/\ob.dict=some builtinsNs/\ob.data=.plain
structure Cx where
 prog:Program
 w:World
 K:PySem.W.Frag
 mg:Str->Option Value
 base:Heap
 A:Around
 N:List Str
 gS:Shared
 wo:Hp
 env:Env
 outer:List Env
 stack:List Env
 ex:List Addr
 fn:Str->Bool
 calm:Bool
 pn:List (Addr × Obj)
 xe:Value->Shared->Prop
def tR (l:List Env):List Addr:=l.filterMap (·.frame)
abbrev Cx.fs (X:Cx):List Addr:=tR X.outer
def Qc (sc:Scope)(x:Str):Prop:=sc.names.lookup x=some .local∨sc.names.lookup x=some .cell∨sc.names.lookup x=some .free
def Loc (sc:Scope)(x:Str):Prop:=sc.names.lookup x=some .local∨sc.names.lookup x=some .cell
def Look (env:Env)(h:Heap)(m:Str->Option Value)(x:Str)(u:Value):Prop:=
 (env.kindOf x=some .local/\m x=some u)∨((env.kindOf x=some .cell∨env.kindOf x=some .free)/\∃ c,env.cells.lookup x=some c/\h.IsCell c (some u))
structure Cx.Ok (X:Cx):Prop where
 mod:Mod X.K X.mg X.base
 kind:X.env.scope.kind=.function
 glob:X.env.globals=mainGlobals
 blt:X.env.builtins=builtinsNs
 above:X.gS.heap.objs.size<=X.env.locals
 inj:∀ x y c,X.env.cells.lookup x=some c->X.env.cells.lookup y=some c->x=y
 has:∀ x,(X.env.kindOf x=some .cell∨X.env.kindOf x=some .free)->∃ c,X.env.cells.lookup x=some c
 Ga:∀ x c,X.fn x=true->X.env.cells.lookup x=some c->X.gS.heap.objs.size<=c
 hd:X.calm=true->X.A.handled=none
 frames:X.A.frames=some X.stack
 GC:X.stack=X.outer∨(X.stack=X.env :: X.outer/\X.env.frame=some X.env.locals)
 Mb:∀ b∈X.ex,b≠X.env.locals/\∀ x c,X.env.cells.lookup x=some c->c≠b
 bs:∀ b o,X.base.get? b=some o->X.gS.heap.get? b=some o/\X.wo b=none
 xF:X.base.objs.size<=X.gS.heap.objs.size
 ur:∀ b o,X.base.get? b=some o->b∉X.ex
 uL:∀ b∈X.ex,b∉X.fs
 lR:X.gS.heap.FunFrames X.base X.outer
 Cs:∀ b∈X.fs,X.wo b=none
structure Inv (X:Cx)(pins:List (Addr × Obj)) (σ:List (Option V)) (H:Hp)(s:Shared):Prop where
 ok:X.Ok
 os:s.os=X.gS.os
 bare:AllBare s.gens
 base:Un X.fs X.ex X.wo H X.gS.heap s.heap
 loc:∃ m,s.heap.Ns X.env.locals m/\∀ (i:Nat) (x:Str) (v:V),X.N[i]? = some x->σ[i]? = some (some v)->Qc X.env.scope x->∃ u,RelV v u/\Look X.env s.heap m x u
 cell:∀ x c,X.env.cells.lookup x=some c->∃ v,s.heap.IsCell c v
 free:H X.env.locals=none
 iq:∀ x c,X.env.cells.lookup x=some c->H c=none
 pin:∀ p∈X.pn++pins,s.heap.get? p.1=some p.2/\H p.1=none/\p.1≠X.env.locals/\p.1∉X.fs/\∀ v,p.2.data≠.cell v
 aX:jI X.prog X.w H s.heap
 len:σ.length=X.N.length
section
variable {X:Cx}{pins:List (Addr × Obj)}{σ:List (Option V)}{H H':Hp}{s:Shared}{h':Heap}
theorem Cx.Ok.OM (ok:X.Ok){b:Addr}{o:Obj}(e:X.base.get? b=some o):b∉X.fs:=λ hb=>by
 have:=(ok.lR.mem hb).1
 rw[e]at this;cases this
theorem Inv.bs (I:Inv X pins σ H s):∀ b o,X.base.get? b=some o->s.heap.get? b=some o/\H b=none:=λ b o e=>
 ⟨I.base.keep b o (I.ok.bs b o e).1 (I.ok.bs b o e).2 (I.ok.OM e) (I.ok.ur b o e),I.base.free b o (I.ok.bs b o e).1 (I.ok.bs b o e).2 (I.ok.ur b o e)⟩
theorem Inv.bk (I:Inv X pins σ H s):∀ b o,X.base.get? b=some o->s.heap.get? b=some o:=λ b o e=>(I.bs b o e).1
theorem Inv.mod (I:Inv X pins σ H s):Mod X.K X.mg X.base:=I.ok.mod
theorem Inv.jl (I:Inv X pins σ H s):X.K.In s.heap:=I.ok.mod.Lo.keeps I.bk
theorem Inv.fr (I:Inv X pins σ H s):∃ m,Fr X.base X.env.locals s.heap m:=
 let ⟨m,hn,_⟩:=I.loc
 ⟨m,hn,I.bk,Nat.le_trans I.ok.xF I.ok.above⟩
theorem Inv.lt (I:Inv X pins σ H s):X.env.locals < s.heap.objs.size:=let ⟨_,hn,_⟩:=I.loc;hn.lt
theorem Inv.sz (I:Inv X pins σ H s):X.gS.heap.objs.size<=s.heap.objs.size:=Nat.le_trans I.ok.above (Nat.le_of_lt I.lt)
theorem Inv.OL (I:Inv X pins σ H s){a:Addr}(h:s.heap.objs.size<=a):a∉X.fs:=λ hb=>by
 obtain⟨_,o,ho,_⟩:=I.ok.lR.mem hb
 exact absurd (Nat.lt_of_lt_of_le (Heap.lt_size ho) (Nat.le_trans I.sz h)) (Nat.lt_irrefl _)
theorem Inv.B0 (I:Inv X pins σ H s):∀ x c,X.env.cells.lookup x=some c->c≠X.env.locals:=λ x c e z=>by
 obtain⟨v,o,ho,hd⟩:=I.cell x c e
 obtain⟨m,⟨o',es,ep,cO,IV,_⟩,_⟩:=I.loc
 rw[z,cO]at ho;cases ho;rw[IV]at hd;cases hd
theorem Inv.lR (I:Inv X pins σ H s):s.heap.FunFrames X.base X.outer:=by
 have all:∀ (l:List Env),(∀ b∈tR l,b∈X.fs)->X.gS.heap.FunFrames X.base l->s.heap.FunFrames X.base l:=by
  intro l
  induction l with
  | nil=>intro _ _;trivial
  | cons env r ih=>
   intro hs hl
   obtain⟨hk,⟨L,o,hf,hn,ho,hd⟩,hr⟩:=hl
   have hL:L∈X.fs:=hs L (by unfold tR;rw[List.filterMap_cons,hf];exact List.mem_cons_self)
   obtain⟨sl,e⟩:=I.base.slot L o ho (I.ok.Cs L hL) hL λ z=>I.ok.uL L z hL
   exact⟨hk,⟨L,_,hf,hn,e,hd⟩,ih (λ b hb=>hs b (by unfold tR;rw[List.filterMap_cons,hf];exact List.mem_cons_of_mem _ hb)) hr⟩
 exact all X.outer (λ _ hb=>hb) I.ok.lR
theorem Inv.stack (I:Inv X pins σ H s):s.heap.FunFrames X.base X.stack:=by
 rcases I.ok.GC with e|⟨e,hf⟩
 ·rw[e];exact I.lR
 ·rw[e]
  obtain⟨m,hn,_⟩:=I.loc
  refine .cons (by rw[I.ok.kind];decide) hf hn ?_ I.lR
  exact Heap.get?_none_of_le (Nat.le_trans I.ok.xF I.ok.above)
theorem Inv.vt (I:Inv X pins σ H s):∀ b∈tR X.stack,b∈X.env.locals :: X.fs:=λ b hb=>by
 rcases I.ok.GC with e|⟨e,hf⟩
 ·rw[e]at hb;exact List.mem_cons_of_mem _ hb
 ·rw[e]at hb
  unfold tR at hb
  rw[List.filterMap_cons,hf]at hb
  exact hb
theorem Inv.oB (I:Inv X pins σ H s):∀ b∈tR X.stack,H b=none:=λ b hb=>by
 rcases List.mem_cons.mp (I.vt b hb) with e|hb
 ·rw[e];exact I.free
 ·obtain⟨_,o,ho,_⟩:=I.ok.lR.mem hb
  exact I.base.free b o ho (I.ok.Cs b hb) λ z=>I.ok.uL b z hb
theorem Inv.step {g':Array GenState}{t':Nat}{d':Drawn}{ch:List Addr}(I:Inv X pins σ H s)
  (Cn:∀ b∈ch,(b∈X.ex∨X.gS.heap.objs.size<=b)/\b≠X.env.locals/\(∀ x c,X.env.cells.lookup x=some c->c≠b)/\∀ p∈X.pn++pins,p.1≠b)
  (keep:∀ b o,b≠X.env.locals->b∉X.fs->b∉ch->s.heap.get? b=some o->H b=none->h'.get? b=some o)
  (slot:∀ b o,b≠X.env.locals->b∈X.fs->b∉ch->s.heap.get? b=some o->H b=none->∃ sl,h'.get? b=some { o with slots:=sl }) (free:∀ b o,b∉ch->s.heap.get? b=some o->H b=none->H' b=none)
  (there:∀ b o,b∉ch->s.heap.get? b=some o->∃ o',h'.get? b=some o')
  (jE:∀ b xs,H b=some (.tup xs)->H' b=some (.tup xs)) (iJ:∀ b o u,H b=some (.ll o u)->H' b=some (.ll o u)) (o7:∀ b ps,H b=some (.oA ps)->∃ more,H' b=some (.oA (ps++more)))
  (ns:∀ m,s.heap.Ns X.env.locals m->h'.Ns X.env.locals m) (aX:jI X.prog X.w H' h') (hg:AllBare g') :
  Inv X pins σ H' { s with heap:=h',gens:=g',drawn:=d',toks:=t' }:=by
 have neL:∀ b o,X.gS.heap.get? b=some o->b≠X.env.locals:=λ b o e=>Nat.ne_of_lt (Nat.lt_of_lt_of_le (Heap.lt_size e) I.ok.above)
 have neC:∀ b o,X.gS.heap.get? b=some o->b∉X.ex->b∉ch:=λ b o e hx hb=>by
  rcases(Cn b hb).1 with z|z
  ·exact hx z
  ·exact absurd (Nat.lt_of_lt_of_le (Heap.lt_size e) z) (Nat.lt_irrefl _)
 have cellK:∀ x c,X.env.cells.lookup x=some c->∀ v,s.heap.IsCell c v->h'.IsCell c v:=λ x c e v ⟨o,ho,hd⟩=>by
  have KR:c∉ch:=λ z=>(Cn c z).2.2.1 x c e rfl
  by_cases hc:c∈X.fs
  ·obtain⟨sl,q⟩:=slot c o (I.B0 x c e) hc KR ho (I.iq x c e)
   exact⟨_,q,hd⟩
  ·exact⟨o,keep c o (I.B0 x c e) hc KR ho (I.iq x c e),hd⟩
 refine⟨I.ok,I.os,hg,⟨λ b o e n hb hx=>?_,λ b o e n hb hx=>?_,λ b o e n hx=>?_,λ b o e hx=>?_,λ b xs e=>jE b xs (I.base.jE b xs e),λ b o xs e=>iJ b o xs (I.base.iJ b o xs e),λ b ps e=>?_⟩,?_,λ x c e=>?_,?_,λ x c e=>?_,λ p hp=>?_,aX,I.len⟩
 ·exact keep b o (neL b o e) hb (neC b o e hx) (I.base.keep b o e n hb hx) (I.base.free b o e n hx)
 ·obtain⟨sl,e1⟩:=I.base.slot b o e n hb hx
  obtain⟨Nd,e2⟩:=slot b _ (neL b o e) hb (neC b o e hx) e1 (I.base.free b o e n hx)
  exact⟨Nd,e2⟩
 ·obtain⟨o',e1⟩:=I.base.there b o e hx
  exact free b o' (neC b o e hx) e1 (I.base.free b o e n hx)
 ·obtain⟨o',e1⟩:=I.base.there b o e hx
  exact there b o' (neC b o e hx) e1
 ·obtain⟨m1,e1⟩:=I.base.o7 b ps e
  obtain⟨m2,e2⟩:=o7 b _ e1
  exact⟨m1++m2,by rw[e2,Array.append_assoc]⟩
 ·obtain⟨m,hn,hl⟩:=I.loc
  refine⟨m,ns m hn,λ i x v e1 e2 e3=>?_⟩
  obtain⟨u,r,l⟩:=hl i x v e1 e2 e3
  refine⟨u,r,?_⟩
  rcases l with l|⟨k,c,e,z⟩
  ·exact .inl l
  ·exact .inr ⟨k,c,e,cellK x c e _ z⟩
 ·obtain⟨v,z⟩:=I.cell x c e
  exact⟨v,cellK x c e v z⟩
 ·obtain⟨m,⟨o,_,_,ho,_⟩,_⟩:=I.loc
  exact free _ o (λ z=>(Cn _ z).2.1 rfl) ho I.free
 ·obtain⟨v,o,ho,hd⟩:=I.cell x c e
  exact free c o (λ z=>(Cn c z).2.2.1 x c e rfl) ho (I.iq x c e)
 ·obtain⟨e,n,ne,nf,d⟩:=I.pin p hp
  have KR:p.1∉ch:=λ z=>(Cn p.1 z).2.2.2 p hp rfl
  exact⟨keep p.1 p.2 ne nf KR e n,free p.1 p.2 KR e n,ne,nf,d⟩
theorem Inv.un {t':Nat}(I:Inv X pins σ H s)(u:Un X.fs [] H H' s.heap h')(aX:jI X.prog X.w H' h'):Inv X pins σ H' { s with heap:=h',toks:=t' }:=by
 obtain⟨m,⟨o,es,ep,ho,r⟩,_⟩:=id I.loc
 obtain⟨sl,hL⟩:=u.any ho I.free (by simp)
 exact I.step (g':=s.gens) (d':=s.drawn) (ch:=[]) (λ _ z=>nomatch z) (λ b o _ hb _ e n=>u.keep b o e n hb (by simp)) (λ b o _ hb _ e n=>u.slot b o e n hb (by simp)) (λ b o _ e n=>u.free b o e n (by simp)) (λ b o _ e=>u.there b o e (by simp)) u.jE u.iJ u.o7 (λ m' hm=>by
  obtain⟨o',BH,PY,cO,r'⟩:=hm
  rw[ho]at cO;cases cO
  exact⟨_,BH,PY,hL,r'⟩) aX I.bare
theorem Inv.call {g':Array GenState}{t':Nat}{d':Drawn}{ch:List Addr}(I:Inv X pins σ H s)(u:Un (tR X.stack) ch H H' s.heap h') (aX:jI X.prog X.w H' h')(hg:AllBare g')
  (Cn:∀ b∈ch,(b∈X.ex∨X.gS.heap.objs.size<=b)/\b≠X.env.locals/\(∀ x c,X.env.cells.lookup x=some c->c≠b)/\∀ p∈X.pn++pins,p.1≠b) :
  Inv X pins σ H' { s with heap:=h',gens:=g',drawn:=d',toks:=t' }:=by
 obtain⟨m,⟨o,es,ep,ho,r⟩,_⟩:=id I.loc
 obtain⟨sl,hL⟩:=u.any ho I.free λ z=>(Cn _ z).2.1 rfl
 exact I.step (ch:=ch) Cn (λ b o hL hb hc e n=>u.keep b o e n (λ z=>(List.mem_cons.mp (I.vt b z)).elim hL hb) hc) (λ b o _ _ hc e n=>u.any e n hc) (λ b o hc e n=>u.free b o e n hc) (λ b o hc e=>u.there b o e hc) u.jE u.iJ u.o7 (λ m' hm=>by
  obtain⟨o',BH,PY,cO,r'⟩:=hm
  rw[ho]at cO;cases cO
  exact⟨_,BH,PY,hL,r'⟩) aX hg
theorem Inv.turned {t':Nat}{it:Addr}(I:Inv X pins σ H s)(k:∀ b o,b≠it->s.heap.get? b=some o->h'.get? b=some o)(hn:H it=none)(hL:it≠X.env.locals)
  (h1:it∈X.ex∨X.gS.heap.objs.size<=it) (h2:∀ x c,X.env.cells.lookup x=some c->c≠it) (h3:∀ p∈X.pn++pins,p.1≠it):Inv X pins σ H { s with heap:=h',toks:=t' }:=by
 have QC:∀ b u,H b=some u->b≠it:=λ b u e z=>by rw[z,hn]at e;cases e
 refine I.step (g':=s.gens) (d':=s.drawn) (ch:=[it]) (λ b hb=>?_) (λ b o _ _ hc e _=>k b o (λ z=>hc (by simp[z])) e) (λ b o _ _ hc e _=>⟨o.slots,k b o (λ z=>hc (by simp[z])) e⟩) (λ _ _ _ _ n=>n)
  (λ b o hc e=>⟨o,k b o (λ z=>hc (by simp[z])) e⟩) (λ _ _ e=>e) (λ _ _ _ e=>e) (λ b ps e=>⟨#[],by rw[e];simp⟩) (λ m hm=>?_) (λ b u e=>?_) I.bare
 ·have e:b=it:=by simpa using hb
  subst e
  exact⟨h1,hL,h2,h3⟩
 ·obtain⟨o,es,ep,ho,r⟩:=hm
  exact⟨o,es,ep,k _ o (Ne.symm hL) ho,r⟩
 ·refine(I.aX b u e).ly (λ c v hc q=>k c v ?_ q) (λ _ q=>q) λ _ _ q=>q
  rcases hc with z|z
  ·rw[z];exact QC b u e
  ·exact QC c _ z
theorem Inv.tok (I:Inv X pins σ H s)(t:Nat):Inv X pins σ H { s with toks:=t }:=I.un (h':=s.heap) (t':=t) Un.refl I.aX
theorem Inv.kept {t':Nat}(I:Inv X pins σ H s)(k:∀ b u,s.heap.get? b=some u->h'.get? b=some u):Inv X pins σ H { s with heap:=h',toks:=t' }:=I.un (Un.kept k) (I.aX.kept k)
theorem Inv.laid {a:Addr}{o:HO}{t':Nat}(I:Inv X pins σ H s)(k:∀ b u,s.heap.get? b=some u->h'.get? b=some u)(hp:s.heap.objs.size<=a)(new:bP X.prog X.w (upd H a o) h' a o) :
  Inv X pins σ (upd H a o) { s with heap:=h',toks:=t' }:=I.un (Un.laid k hp (I.aX.fresh hp)) (I.aX.laid k hp new)
theorem Inv.write {x e:Addr}{o:HO}{t':Nat}(I:Inv X pins σ H s)(mu:JJ (H x)) (he:e=x∨H e=some (.own x)) (k:∀ b u,b≠e->s.heap.get? b=some u->h'.get? b=some u)(JD:∃ u,h'.get? e=some u)
  (new:bP X.prog X.w (upd H x o) h' x o):Inv X pins σ (upd H x o) { s with heap:=h',toks:=t' }:=I.un (Un.write mu he k JD) (I.aX.write mu he k JD new)
theorem Inv.wH {uh:List (Addr × Obj)}(I:Inv X pins σ H s)(h:∀ p∈uh,s.heap.get? p.1=some p.2/\H p.1=none/\p.1≠X.env.locals/\p.1∉X.fs/\∀ v,p.2.data≠.cell v):Inv X uh σ H s:=
 ⟨I.ok,I.os,I.bare,I.base,I.loc,I.cell,I.free,I.iq,λ p hp=>(List.mem_append.mp hp).elim (λ z=>I.pin p (List.mem_append_left _ z)) (h p),I.aX,I.len⟩
theorem pG {N:List Str}(hN:N.Nodup){i j:Nat}{x:Str}(a:N[i]? = some x)(b:N[j]? = some x):i=j:=by
 obtain⟨h1,e1⟩:=List.getElem?_eq_some_iff.mp a
 obtain⟨h2,e2⟩:=List.getElem?_eq_some_iff.mp b
 exact(List.getElem_inj hN).mp (e1.trans e2.symm)
theorem qL {M:Model}{A:Around}{E:Value->Shared->Prop}{i:Nat}{x:Str}{v:V}{u:Value}{Q:Unit->Shared->Prop}(I:Inv X pins σ H s)(hN:X.N.Nodup)(hi:X.N[i]? = some x)(hx:Loc X.env.scope x)(r:RelV v u)
  (h:∀ s',Inv X pins (σ.set i (some v)) H s'->(∃ a,Heap.SameBut a s.heap s'.heap/\(a=X.env.locals∨X.env.cells.lookup x=some a))->Q () s') (hf:X.fn x=true∨X.env.scope.names.lookup x=some .local:=by first|exact .inl rfl|exact .inr rfl|assumption):wpAny M A (storeName X.env x u) Q E s:=by
 obtain⟨m,hn,hl⟩:=id I.loc
 have IW:(X.env.scope.kind == .class || (X.env.scope.kind == .module && X.env.locals != X.env.globals))=false:=by rw[I.ok.kind];rfl
 have hiσ:i < σ.length:=by rw[I.len];exact(List.getElem?_eq_some_iff.mp hi).1
 have B0:=I.B0
 have tracked:∀ {a:Addr}{h':Heap},(∃ o,s.heap.get? a=some o/\H a=none)->Heap.SameBut a s.heap h'->jI X.prog X.w H h':=λ {a h'} ha hs b ob e=>by
  obtain⟨_,_,FR⟩:=ha
  refine(I.aX b ob e).ly (λ c w' hc q=>(hs.2 c ?_).trans q) (λ _ q=>q) λ _ _ q=>q
  rintro rfl
  rcases hc with rfl|hc
  ·rw[FR]at e;cases e
  ·rw[FR]at hc;cases hc
 rcases hx with hk|hk
 ·refine wpAny_storeName_local hk hn (λ h' Ph hs=>?_) IW
  obtain⟨oL,_,_,hoL,_⟩:=id hn
  refine h _ ⟨I.ok,I.os,I.bare,⟨λ b o e n hb hx=>?_,λ b o e n hb hx=>?_,I.base.free,λ b o e hx=>?_,I.base.jE,I.base.iJ,I.base.o7⟩,⟨_,Ph,λ j y v' e1 e2 e3=>?_⟩,λ y c e=>?_,I.free,I.iq,λ p hp=>?_,tracked ⟨oL,hoL,I.free⟩ hs,by simpa using I.len⟩ ⟨_,hs,.inl rfl⟩
  ·exact(hs.2 b (Nat.ne_of_lt (Nat.lt_of_lt_of_le (Heap.lt_size e) I.ok.above))).trans (I.base.keep b o e n hb hx)
  ·obtain⟨sl,e1⟩:=I.base.slot b o e n hb hx
   exact⟨sl,(hs.2 b (Nat.ne_of_lt (Nat.lt_of_lt_of_le (Heap.lt_size e) I.ok.above))).trans e1⟩
  ·obtain⟨o',e1⟩:=I.base.there b o e hx
   exact⟨o',(hs.2 b (Nat.ne_of_lt (Nat.lt_of_lt_of_le (Heap.lt_size e) I.ok.above))).trans e1⟩
  ·by_cases hj:j=i
   ·subst hj
    rw[hi]at e1;cases e1
    rw[List.getElem?_set_self hiσ]at e2
    cases e2
    exact⟨u,r,.inl ⟨hk,by simp⟩⟩
   ·rw[List.getElem?_set_ne (Ne.symm hj)]at e2
    obtain⟨u',r',q⟩:=hl j y v' e1 e2 e3
    refine⟨u',r',?_⟩
    rcases q with⟨k,e⟩|⟨k,c,e,z⟩
    ·refine .inl ⟨k,?_⟩
     have:y≠x:=λ e=>hj (pG hN e1 (e ▸ hi))
     simp[this,e]
    ·exact .inr ⟨k,c,e,z.sameBut hs (B0 y c e)⟩
  ·obtain⟨w',z⟩:=I.cell y c e
   exact⟨w',z.sameBut hs (B0 y c e)⟩
  ·obtain⟨e,n,ne,nf,d⟩:=I.pin p hp
   exact⟨(hs.2 p.1 ne).trans e,n,ne,nf,d⟩
 ·have Pr:X.fn x=true:=by
   rcases hf with z|z
   ·exact z
   ·rw[z]at hk;cases hk
  obtain⟨c,hc⟩:=I.ok.has x (.inl hk)
  obtain⟨w',z⟩:=I.cell x c hc
  refine wpAny_storeName_cell I.ok.kind hk hc z (λ h' QZ hs=>?_)
  obtain⟨oc,LD,Pg⟩:=id z
  refine h { s with heap:=h' } ⟨I.ok,I.os,I.bare,⟨λ b o e n hb hx=>?_,λ b o e n hb hx=>?_,I.base.free,λ b o e hx=>?_,I.base.jE,I.base.iJ,I.base.o7⟩,⟨m,hn.sameBut hs (Ne.symm (B0 x c hc)),λ j y v' e1 e2 e3=>?_⟩,λ y c' e=>?_,I.free,I.iq,λ p hp=>?_,tracked ⟨oc,LD,I.iq x c hc⟩ hs,by simpa using I.len⟩ ⟨c,hs,.inr hc⟩
  ·exact(hs.2 b (Nat.ne_of_lt (Nat.lt_of_lt_of_le (Heap.lt_size e) (I.ok.Ga x c Pr hc)))).trans (I.base.keep b o e n hb hx)
  ·obtain⟨sl,e1⟩:=I.base.slot b o e n hb hx
   exact⟨sl,(hs.2 b (Nat.ne_of_lt (Nat.lt_of_lt_of_le (Heap.lt_size e) (I.ok.Ga x c Pr hc)))).trans e1⟩
  ·obtain⟨o',e1⟩:=I.base.there b o e hx
   exact⟨o',(hs.2 b (Nat.ne_of_lt (Nat.lt_of_lt_of_le (Heap.lt_size e) (I.ok.Ga x c Pr hc)))).trans e1⟩
  ·by_cases hj:j=i
   ·subst hj
    rw[hi]at e1;cases e1
    rw[List.getElem?_set_self hiσ]at e2
    cases e2
    exact⟨u,r,.inr ⟨.inl hk,c,hc,QZ⟩⟩
   ·rw[List.getElem?_set_ne (Ne.symm hj)]at e2
    obtain⟨u',r',q⟩:=hl j y v' e1 e2 e3
    refine⟨u',r',?_⟩
    rcases q with q|⟨k,c',e,z'⟩
    ·exact .inl q
    ·refine .inr ⟨k,c',e,z'.sameBut hs ?_⟩
     rintro rfl
     exact hj (pG hN e1 (I.ok.inj _ _ _ e hc ▸ hi))
  ·by_cases QY:c'=c
   ·subst QY;exact⟨_,QZ⟩
   ·obtain⟨w2,z2⟩:=I.cell y c' e
    exact⟨w2,z2.sameBut hs QY⟩
  ·obtain⟨e,n,ne,nf,d⟩:=I.pin p hp
   refine⟨(hs.2 p.1 ?_).trans e,n,ne,nf,d⟩
   intro q
   rw[q,LD]at e
   have q':oc=p.2:=Option.some.inj e
   exact d w' (by rw[<-q'];exact Pg)
theorem jR {M:Model}{A:Around}{E:Value->Shared->Prop}{i:Nat}{x:Str}{v:V}{u:Value}{Q:Unit->Shared->Prop}(I:Inv X pins σ H s)(hN:X.N.Nodup)(hi:X.N[i]? = some x)(hx:Loc X.env.scope x)(r:RelV v u)
  (h:∀ s',Inv X pins (σ.set i (some v)) H s'->Q () s') (hf:X.fn x=true∨X.env.scope.names.lookup x=some .local:=by first|exact .inl rfl|exact .inr rfl|assumption):wpAny M A (storeName X.env x u) Q E s:=
 qL I hN hi hx r (λ s' I' _=>h s' I') hf
theorem Inv.MW {s':Shared}{ch:List Addr}(I:Inv X pins σ H s)(ho:s'.os=s.os)(u:Un (tR X.stack) ch H H' s.heap s'.heap) (aX:jI X.prog X.w H' s'.heap)(hg:AllBare s'.gens)
  (Cn:∀ b∈ch,(b∈X.ex∨X.gS.heap.objs.size<=b)/\b≠X.env.locals/\(∀ x c,X.env.cells.lookup x=some c->c≠b)/\∀ p∈X.pn++pins,p.1≠b):Inv X pins σ H' s':=by
 obtain⟨h',g',d',t',o'⟩:=s'
 have e:o'=s.os:=ho
 subst e
 exact I.call (g':=g') (t':=t') (d':=d') u aX hg Cn
end
abbrev XK:=Value->Option Addr->Hp->Prop
abbrev St:=List (Option V)
abbrev VK:=V->Hp->Prop
abbrev TE:=St->Hp->VK->Prop
abbrev TT:=St->Hp->(Bool->Hp->Prop)->Prop
abbrev TA:=St->Hp->(List V->Hp->Prop)->Prop
structure Ends where
 nx:St->Hp->Prop
 rt:VK
 bk:St->Hp->Prop:=λ _ _=>False
 ct:St->Hp->Prop:=λ _ _=>False
abbrev TS:=Ends->St->Hp->Prop
def EP (X:Cx)(pins:List (Addr × Obj)) (σ:St)(Q:VK)(u:Value)(s':Shared):Prop:=∃ v H',Inv X pins σ H' s'/\RelV v u/\Q v H'
def TP (X:Cx)(pins:List (Addr × Obj)) (σ:St)(Q:Bool->Hp->Prop)(b:Bool)(s':Shared):Prop:=∃ H',Inv X pins σ H' s'/\Q b H'
def AP (X:Cx)(pins:List (Addr × Obj)) (σ:St)(Q:List V->Hp->Prop)(us:List Value)(s':Shared):Prop:=∃ vs H',Inv X pins σ H' s'/\Vals vs us/\Q vs H'
def SP (X:Cx)(pins:List (Addr × Obj)) (D:Ends)(f:Flow)(s':Shared):Prop:=
 match f with
 | .next=>∃ σ' H',Inv X pins σ' H' s'/\D.nx σ' H'
 | .brk=>∃ σ' H',Inv X pins σ' H' s'/\D.bk σ' H'
 | .cont=>∃ σ' H',Inv X pins σ' H' s'/\D.ct σ' H'
 | .ret u=>∃ v σ' H',Inv X pins σ' H' s'/\RelV v u/\D.rt v H'
def PE (X:Cx)(e:Expr)(t:TE):Prop:=
 ∀ (pins:List (Addr × Obj)) (s:Shared) (σ:St) (H:Hp) (Q:VK),Inv X pins σ H s->t σ H Q->wpAny (model X.prog X.w) X.A (eval e X.env) (EP X pins σ Q) X.xe s
def PT (X:Cx)(e:Expr)(t:TT):Prop:=
 ∀ (pins:List (Addr × Obj)) (s:Shared) (σ:St) (H:Hp) (Q:Bool->Hp->Prop),Inv X pins σ H s->t σ H Q->wpAny (model X.prog X.w) X.A (isTrue e X.env (eval e X.env)) (TP X pins σ Q) X.xe s
def PW (X:Cx)(e:Expr)(t:TT):Prop:=
 ∀ (whole:Sem Value) (pins:List (Addr × Obj)) (s:Shared) (σ:St) (H:Hp) (Q:Bool->Hp->Prop),Inv X pins σ H s->t σ H Q->wpAny (model X.prog X.w) X.A (isTrue e X.env whole) (TP X pins σ Q) X.xe s
theorem PW.pt {X:Cx}{e:Expr}{t:TT}(h:PW X e t):PT X e t:=h _
def PA (X:Cx)(es:List Expr)(t:TA):Prop:=
 ∀ (pos:Pos) (pins:List (Addr × Obj)) (s:Shared) (σ:St) (H:Hp) (Q:List V->Hp->Prop),Inv X pins σ H s->t σ H Q->wpAny (model X.prog X.w) X.A (spliced (backTo pos (starEach es X.env))) (AP X pins σ Q) X.xe s
def PS (X:Cx)(st:Stmt)(t:TS):Prop:=
 ∀ (pins:List (Addr × Obj)) (s:Shared) (σ:St) (H:Hp) (D:Ends),Inv X pins σ H s->t D σ H->wpAny (model X.prog X.w) X.A (exec st X.env) (SP X pins D) X.xe s
def kI (X:Cx)(st:List Stmt)(t:TS):Prop:=
 ∀ (pins:List (Addr × Obj)) (s:Shared) (σ:St) (H:Hp) (D:Ends),Inv X pins σ H s->t D σ H->wpAny (model X.prog X.w) X.A (execs st X.env) (SP X pins D) X.xe s
theorem bI {α:Type}{t:Sem α}{Q Q':α->Shared->Prop}{M:Model}{A:Around}{E:Value->Shared->Prop}{s:Shared}(h:wpAny M A t Q E s)(hQ:∀ a s,Q a s->Q' a s):wpAny M A t Q' E s:=wpAny_mono h hQ λ _ _ x=>x
end L2
namespace L2
open PySem PySem.Spec PyProof.Rows
section
variable {X:Cx}
theorem bin {a b:Expr}{ta tb:TE}(ha:PE X a ta)(hb:PE X b tb){pins:List (Addr × Obj)}{s:Shared}{σ:St}{H:Hp}{R:V->V->Hp->Prop}(I:Inv X pins σ H s)(h:ta σ H λ x H1=>tb σ H1 λ y H2=>R x y H2)
  {α:Type}{Q:α->Shared->Prop}{f:Value->Value->Sem α}
  (hf:∀ v u s2 x y H2,Inv X pins σ H2 s2->RelV x v->RelV y u->R x y H2->wpAny (model X.prog X.w) X.A (f v u) Q X.xe s2) :
  wpAny (model X.prog X.w) X.A (eval a X.env) (λ v s₁=>wpAny (model X.prog X.w) X.A (eval b X.env) (λ u s₂=>wpAny (model X.prog X.w) X.A (f v u) Q X.xe s₂) X.xe s₁) X.xe s:=by
 refine bI (ha pins s σ H _ I h) λ v s1 ⟨x,H1,I1,r1,q1⟩=>?_
 refine bI (hb pins s1 σ H1 _ I1 q1) λ u s2 ⟨y,H2,I2,r2,q2⟩=>?_
 exact hf v u s2 x y H2 I2 r1 r2 q2
def Gv (i:Nat):TE:=λ σ H Q=>∃ v,σ[i]? = some (some v)/\Q v H
def tC (v:V):TE:=λ _ H Q=>Q v H
theorem Ha {i:Nat}{x:Str}{pos:Pos}(hN:X.N[i]? = some x)(hv:Qc X.env.scope x)(hd:(x == ("__debug__":Str))=false:=by decide) (xh:(x == ("__classdict__":Str))=false:=by decide):PE X (.Name x pos) (Gv i):=by
 intro pins s σ H Q I h
 obtain⟨v,e,h⟩:=h
 obtain⟨m,hn,hl⟩:=I.loc
 obtain⟨u,r,l⟩:=hl i x v hN e hv
 have fin:EP X pins σ Q u s:=⟨v,H,I,r,h⟩
 rcases l with⟨hk,hm⟩|⟨hk,c,hc,xg⟩
 ·exact wpAny_Name (wpAny_loadName_local I.ok.kind hk hn hm fin) hd
 ·rcases hk with hk|hk
  ·exact wpAny_Name (wpAny_loadName_cell I.ok.kind hk hc xg fin) hd
  ·exact wpAny_Name (wpAny_loadName_free I.ok.kind hk hc xg fin xh) hd
theorem Hh {i j pos}:PE X (.Constant (.int i) j pos) (tC (.int i)):=λ _ _ _ H _ I h=>wpAny_Constant_int ⟨.int i,H,I.tok _,⟨_,rfl⟩,h⟩
theorem Kv {b j pos}:PE X (.Constant (.bool b) j pos) (tC (.bl b)):=λ _ _ _ H _ I h=>Constant_bool ⟨.bl b,H,I,rfl,h⟩
theorem Hf {j pos}:PE X (.Constant .none j pos) (tC .aC):=λ _ _ _ H _ I h=>Constant_none ⟨.aC,H,I,rfl,h⟩
theorem Hb {x j pos}:PE X (.Constant (.str x) j pos) (tC (.str x)):=λ _ _ _ H _ I h=>Calls.Constant_str ⟨.str x,H,I.tok _,⟨_,rfl⟩,h⟩
def Gl (X:Cx)(x:Str):Prop:=X.env.kindOf x=some .globalImplicit
theorem kL {E:Value->Shared->Prop}{pins:List (Addr × Obj)}{s:Shared}{σ:St}{H:Hp}{x:Str}{u:Value}{pos:Pos}{Q:Value->Shared->Prop}(I:Inv X pins σ H s)(hg:Gl X x)(hm:X.mg x=some u)(h:Q u s)
  (hd:(x == ("__debug__":Str))=false:=by decide):wpAny (model X.prog X.w) X.A (eval (.Name x pos) X.env) Q E s:=
 Calls.Name_function_global I.ok.kind hg (Calls.loadGlobal_global (by rw[I.ok.glob];exact I.mod.glob.keeps I.bk) hm h) hd
theorem lK {E:Value->Shared->Prop}{pins:List (Addr × Obj)}{s:Shared}{σ:St}{H:Hp}{x:Str}{u:Value}{pos:Pos}{Q:Value->Shared->Prop}(I:Inv X pins σ H s)(hg:Gl X x)(hm:X.mg x=none)(hv:bootBuiltins x=some u)(h:Q u s)
  (hn:x≠"__name__":=by decide) (hd:(x == ("__debug__":Str))=false:=by decide):wpAny (model X.prog X.w) X.A (eval (.Name x pos) X.env) Q E s:=by
 obtain⟨mb,h1,h2⟩:=I.mod.blt
 exact Calls.Name_function_global I.ok.kind hg (Calls.loadGlobal_builtin (by rw[I.ok.glob];exact I.mod.glob.keeps I.bk) hm (by rw[I.ok.blt];exact h1.keeps I.bk) ((h2 x hn).trans hv) h) hd
theorem sm {x:Str}{v:V}{u:Value}{pos:Pos}(hg:Gl X x)(hm:X.mg x=some u)(r:RelV v u)(hd:(x == ("__debug__":Str))=false:=by decide):PE X (.Name x pos) (tC v):=
 λ _ _ _ H _ I h=>kL I hg hm ⟨v,H,I,r,h⟩ hd
theorem wI {x:Str}{v:V}{u:Value}{pos:Pos}(hg:Gl X x)(hm:X.mg x=none)(hv:bootBuiltins x=some u)(r:RelV v u)(hn:x≠"__name__":=by decide)(hd:(x == ("__debug__":Str))=false:=by decide):PE X (.Name x pos) (tC v):=
 λ _ _ _ H _ I h=>lK I hg hm hv ⟨v,H,I,r,h⟩ hn hd
variable {a b:Expr}{ta tb:TE}{pos:Pos}
def PC (X:Cx)(op:CmpOp)(a b:Expr)(t:TE):Prop:=
 ∀ (pins:List (Addr × Obj)) (s:Shared) (σ:St) (H:Hp) (Q:VK),Inv X pins σ H s->t σ H Q->
  wpAny (model X.prog X.w) X.A (eval a X.env) (λ v s₁=>wpAny (model X.prog X.w) X.A (eval b X.env) (λ u s₂=>wpAny (model X.prog X.w) X.A (compareOp op v u) (EP X pins σ Q) X.xe s₂) X.xe s₁) X.xe s
theorem uu (b:Expr){op:CmpOp}(h:op≠.In)(h2:op≠.NotIn):behindInMarks op b=false:=by
 have e1:(op == CmpOp.In)=false:=by cases op<;>first|rfl|exact absurd rfl h
 have e2:(op == CmpOp.NotIn)=false:=by cases op<;>first|rfl|exact absurd rfl h2
 cases b<;>simp[behindInMarks,e1,e2]
def tB (t:TE):TT:=λ σ H Q=>t σ H λ x H1=>∃ c,x=.bl c/\Q c H1
theorem Hk {op:CmpOp}{t:TE}(h:PC X op a b t)(h1:behindInMarks op b=false:=by first|exact uu _ (by decide) (by decide)|rfl):PE X (.Compare a [op] [b] pos) t:=λ pins s σ H Q I hw=>wpAny_Compare1 (h pins s σ H Q I hw) h1
theorem zO {op:CmpOp}{t:TE}(h:PC X op a b t)(h1:behindInMarks op b=false:=by first|exact uu _ (by decide) (by decide)|rfl):PT X (.Compare a [op] [b] pos) (tB t):=by
 intro pins s σ H Q I hw
 refine wpAny_isTrue_Compare1 (bI (h pins s σ H _ I hw) λ v s1 h1=>bI h1 λ u s2 h2=>bI h2 λ c s3 ⟨x,H1,I1,r1,q1⟩=>?_) h1
 obtain⟨d,rfl,q⟩:=q1
 cases r1
 exact wpAny_truthy_bool ⟨H1,I1,q⟩
variable {tA tB':TT}{rest:List Expr}
def Rr (t u:TT):TT:=λ σ H Q=>t σ H λ c H1=>if c=true then Q true H1 else u σ H1 Q
def N0 (t:TT):TT:=λ σ H Q=>t σ H λ c H1=>Q (!c) H1
theorem pw_or1 (ha:PT X a tA):PW X (.BoolOp .Or [a] pos) tA:=by
 intro wh pins s σ H Q I h
 refine isTrue_or (bI (ha pins s σ H Q I h) λ c s1 e=>?_)
 cases c with
 | false=>exact isTrue_or_nil e
 | true=>exact e
theorem pw_or (ha:PT X a tA)(hb:PW X (.BoolOp .Or (b :: rest) pos) tB'):PW X (.BoolOp .Or (a :: b :: rest) pos) (Rr tA tB'):=by
 intro wh pins s σ H Q I h
 refine isTrue_or (bI (ha pins s σ H _ I h) λ c s1 ⟨H1,I1,q1⟩=>?_)
 cases c with
 | true=>exact⟨H1,I1,q1⟩
 | false=>exact hb wh pins s1 σ H1 Q I1 q1
theorem GY (ha:PT X a tA):PT X (.UnaryOp .Not a pos) (N0 tA):=by
 intro pins s σ H Q I h
 exact isTrue_not (ha pins s σ H (λ c H1=>Q (!c) H1) I h)
def J' (ta tb:TE):TE:=λ σ H Q=>ta σ H λ x H1=>∃ c,x=.bl c/\if c=true then tb σ H1 Q else Q (.bl false) H1
def NZ (ta tb:TE):TE:=λ σ H Q=>ta σ H λ x H1=>∃ c,x=.bl c/\if c=true then Q (.bl true) H1 else tb σ H1 Q
def JY (ta:TE):TE:=λ σ H Q=>ta σ H λ x H1=>∃ c,x=.bl c/\Q (.bl (!c)) H1
theorem Hc {op} {t:TE}(h:PE X a t):PE X (.BoolOp op [a] pos) t:=λ pins s σ H Q I hw=>BoolOp_one (h pins s σ H Q I hw)
theorem Hm (ha:PE X a ta)(hb:PE X (.BoolOp .And (b :: rest) pos) tb):PE X (.BoolOp .And (a :: b :: rest) pos) (J' ta tb):=by
 intro pins s σ H Q I h
 refine BoolOp_and (bI (ha pins s σ H _ I h) λ v s1 ⟨x,H1,I1,r1,q1⟩=>?_)
 obtain⟨c,rfl,q1⟩:=q1
 cases r1
 refine wpAny_truthy_bool ?_
 cases c with
 | true=>exact hb pins s1 σ H1 Q I1 q1
 | false=>exact⟨.bl false,H1,I1,rfl,q1⟩
theorem Kr (ha:PE X a ta)(hb:PE X (.BoolOp .Or (b :: rest) pos) tb):PE X (.BoolOp .Or (a :: b :: rest) pos) (NZ ta tb):=by
 intro pins s σ H Q I h
 refine BoolOp_or (bI (ha pins s σ H _ I h) λ v s1 ⟨x,H1,I1,r1,q1⟩=>?_)
 obtain⟨c,rfl,q1⟩:=q1
 cases r1
 refine wpAny_truthy_bool ?_
 cases c with
 | false=>exact hb pins s1 σ H1 Q I1 q1
 | true=>exact⟨.bl true,H1,I1,rfl,q1⟩
theorem He (ha:PE X a ta):PE X (.UnaryOp .Not a pos) (JY ta):=by
 intro pins s σ H Q I h
 refine UnaryOp_ (bI (ha pins s σ H _ I h) λ v s1 ⟨x,H1,I1,r1,q1⟩=>?_)
 obtain⟨c,rfl,q1⟩:=q1
 cases r1
 exact not_of (wpAny_truthy_bool ⟨.bl (!c),H1,I1,rfl,q1⟩)
def Rt (t:TT)(ta tb:TE):TE:=λ σ H Q=>t σ H λ c H1=>if c=true then ta σ H1 Q else tb σ H1 Q
theorem Af {c:Expr}(hc:PT X c tA)(ha:PE X a ta)(hb:PE X b tb):PE X (.IfExp c a b pos) (Rt tA ta tb):=by
 intro pins s σ H Q I h
 refine wpAny_IfExp (bI (hc pins s σ H _ I h) λ d s1 ⟨H1,I1,q1⟩=>?_)
 cases d with
 | true=>exact ha pins s1 σ H1 Q I1 q1
 | false=>exact hb pins s1 σ H1 Q I1 q1
end
end L2
namespace L2
open PySem PySem.Spec PyProof.Rows
def fB (K:PySem.W.Frag)(H:Hp)(a:Addr)(xs:List V):Prop:=
 Rd H a (.lst xs)∨
  ∃ (o:Obj) (its:Array Value) (n:Nat),K.lookup a=some o/\o.cls=.type "list"/\o.dict=none/\o.data=.seq its n/\its.size<=sizeLine/\Vals xs its.toList
def hW (K:PySem.W.Frag)(H:Hp)(a:Addr)(xs:List V):Prop:=
 Rd H a (.tup xs)∨
  ∃ (o:Obj) (its:Array Value) (n:Nat),K.lookup a=some o/\o.cls=.type "tuple"/\o.data=.seq its n/\its.size<=sizeLine/\Vals xs its.toList
def Qb:Value->Option V
 | .none=>some .aC
 | .bool b=>some (.bl b)
 | .int i _=>some (.int i)
 | .str x _=>some (.str x)
 | .bytes b _=>some (.wb b)
 | .float b _=>some (.F0 b)
 | .ref a=>some (.ref a)
 | .type n=>some (.ty n)
 | _=>none
theorem RelV.abs {x:V}{u:Value}(r:RelV x u):Qb u=some x:=by
 cases x with
 | aC=>cases r;rfl
 | bl _=>cases r;rfl
 | int _=>obtain⟨t,rfl⟩:=r;rfl
 | str _=>obtain⟨t,rfl⟩:=r;rfl
 | wb _=>obtain⟨t,rfl⟩:=r;rfl
 | F0 _=>obtain⟨t,rfl⟩:=r;rfl
 | ref _=>cases r;rfl
 | ty _=>cases r;rfl
theorem RelV.inj {x y:V}{u:Value}(r:RelV x u)(q:RelV y u):x=y:=Option.some.inj (r.abs.symm.trans q.abs)
theorem Vals.inj:∀ {xs ys:List V}{us:List Value},Vals xs us->Vals ys us->xs=ys
 | _,_,_,.nil,.nil=>rfl
 | _,_,_,.cons r t,.cons r' t'=>by rw[r.inj r',Vals.inj t t']
section
variable {X:Cx}{pins:List (Addr × Obj)}{σ:St}{H:Hp}{s:Shared}{a:Addr}{xs ys:List V}
theorem fB.of {K:PySem.W.Frag}(h:H a=some (.lst xs)):fB K H a xs:=.inl (.inl h)
theorem hW.of {K:PySem.W.Frag}(h:H a=some (.tup xs)):hW K H a xs:=.inl (.inl h)
theorem Inv.list (I:Inv X pins σ H s)(h:fB X.K H a xs):∃ its:List Value,Vals xs its/\PlainL s.heap a its.toArray/\xs.length<=sizeLine:=by
 rcases h with h|⟨o,its,n,hk,hc,hd,hs,hz,r⟩
 ·obtain⟨z,its,n,r,e⟩:=h.ok I.aX
  exact⟨its,r,⟨_,n,e,rfl,rfl,rfl⟩,z⟩
 ·refine⟨its.toList,r,⟨o,n,I.jl a o hk,hc,hd,by simpa using hs⟩,?_⟩
  have e:=r.length
  simp only[Array.length_toList]at e
  omega
theorem Inv.tuple (I:Inv X pins σ H s)(h:hW X.K H a xs):∃ its:List Value,Vals xs its/\IsTup s.heap a its.toArray/\xs.length<=sizeLine:=by
 rcases h with h|⟨o,its,n,hk,hc,hs,hz,r⟩
 ·obtain⟨z,its,r,p⟩:=h.ok I.aX
  exact⟨its,r,p,z⟩
 ·refine⟨its.toList,r,⟨o,I.jl a o hk,hc,n,by simpa using hs⟩,?_⟩
  have e:=r.length
  simp only[Array.length_toList]at e
  omega
theorem Inv.pN (I:Inv X pins σ H s)(h:fB X.K H a xs)(h':fB X.K H a ys):xs=ys:=by
 obtain⟨its,r,⟨o,n,e,_,_,d⟩,_⟩:=I.list h
 obtain⟨its',r',⟨o',n',e',_,_,d'⟩,_⟩:=I.list h'
 rw[e]at e';cases e'
 rw[d]at d'
 injection d' with d1 _
 have:its=its':=by simpa using congrArg Array.toList d1
 subst this
 exact r.inj r'
theorem Inv.mU (I:Inv X pins σ H s)(h:hW X.K H a xs)(h':hW X.K H a ys):xs=ys:=by
 obtain⟨its,r,⟨o,e,_,n,d⟩,_⟩:=I.tuple h
 obtain⟨its',r',⟨o',e',_,n',d'⟩,_⟩:=I.tuple h'
 rw[e]at e';cases e'
 rw[d]at d'
 injection d' with d1 _
 have:its=its':=by simpa using congrArg Array.toList d1
 subst this
 exact r.inj r'
end
section
variable {X:Cx}{pins:List (Addr × Obj)}{σ:St}{H:Hp}{s:Shared}{E:Value->Shared->Prop}
end
section
variable {X:Cx}{st:Stmt}{rest:List Stmt}{t u:TS}{e:Expr}{te:TE}{pos:Pos}
def JZ:TS:=λ D σ H=>D.nx σ H
def NW (t u:TS):TS:=λ D σ H=>t { D with nx:=u D } σ H
theorem Dk:kI X [] JZ:=λ _ _ σ H _ I h=>wpAny_execs_nil ⟨σ,H,I,h⟩
theorem zP (h1:PS X st t)(h2:kI X rest u):kI X (st :: rest) (NW t u):=by
 intro pins s σ H D I h
 refine wpAny_execs_cons (bI (h1 pins s σ H { D with nx:=u D } I h) λ f s1 q=>?_)
 cases f with
 | next=>
  obtain⟨σ',H',I',q⟩:=q
  exact h2 pins s1 σ' H' D I' q
 | ret v=>exact q
 | brk=>exact q
 | cont=>exact q
theorem Dj (h1:PS X st t):kI X [st] t:=by
 intro pins s σ H D I h
 refine wpAny_execs_cons (bI (h1 pins s σ H D I h) λ f s1 q=>?_)
 cases f with
 | next=>exact wpAny_execs_nil q
 | ret v=>exact q
 | brk=>exact q
 | cont=>exact q
theorem Inv.quiet {pins:List (Addr × Obj)}{σ:St}{H:Hp}{s:Shared}(I:Inv X pins σ H s):interactive X.env=false:=by simp[interactive,I.ok.kind]
def J7 (te:TE):TS:=λ D σ H=>te σ H λ _ H1=>D.nx σ H1
theorem Dl (he:PE X e te)(hs:swapsWith e none pos.line X.env=pure false:=by rfl):PS X (.Expr e pos) (J7 te):=by
 intro pins s σ H D I h
 exact wpAny_Expr_any (bI (he pins s σ H _ I h) λ v s1 ⟨x,H1,I1,r1,q1⟩=>⟨σ,H1,I1,q1⟩) I.quiet hs
def NX (te:TE):TS:=λ D σ H=>te σ H D.rt
theorem G3 (he:PE X e te):PS X (.Return (some e) pos) (NX te):=by
 intro pins s σ H D I h
 exact wpAny_Return_some (bI (he pins s σ H _ I h) λ v s1 ⟨x,H1,I1,r1,q1⟩=>⟨x,σ,H1,I1,r1,q1⟩)
def N5 (c:TT)(t u:TS):TS:=λ D σ H=>c σ H λ b H1=>if b=true then t D σ H1 else u D σ H1
theorem Kn {c:Expr}{a b:List Stmt}{tc:TT}(hc:PT X c tc)(ha:kI X a t)(hb:kI X b u):PS X (.If c a b pos) (N5 tc t u):=by
 intro pins s σ H D I h
 refine wpAny_If (bI (hc pins s σ H _ I h) λ d s1 ⟨H1,I1,q1⟩=>?_)
 cases d with
 | true=>exact ha pins s1 σ H1 D I1 q1
 | false=>exact hb pins s1 σ H1 D I1 q1
end
abbrev TG:=V->St->Hp->(St->Hp->Prop)->Prop
abbrev Fw:=List V->St->Hp->(St->Hp->Prop)->Prop
def PG (X:Cx)(target:Expr)(t:TG):Prop:=
 ∀ (pins:List (Addr × Obj)) (s:Shared) (σ:St) (H:Hp) (v:V) (u:Value) (Q:St->Hp->Prop),Inv X pins σ H s->RelV v u->t v σ H Q->
  wpAny (model X.prog X.w) X.A (assign target X.env u) (λ _ s'=>∃ σ' H',Inv X pins σ' H' s'/\Q σ' H') X.xe s
def xJ (X:Cx)(ts:List Expr)(t:Fw):Prop:=
 ∀ (pins:List (Addr × Obj)) (s:Shared) (σ:St) (H:Hp) (vs:List V) (us:List Value) (Q:St->Hp->Prop),Inv X pins σ H s->Vals vs us->t vs σ H Q->
  wpAny (model X.prog X.w) X.A (assignInOrder ((assignEach ts X.env).map (·.2)) us) (λ _ s'=>∃ σ' H',Inv X pins σ' H' s'/\Q σ' H') X.xe s
abbrev Jq:=V->V->V->Hp->(Hp->Prop)->Prop
def Jr (X:Cx)(t:Jq):Prop:=
 ∀ (pins:List (Addr × Obj)) (s:Shared) (σ:St) (H:Hp) (o i v:V) (ov iv u:Value) (Q:Hp->Prop),Inv X pins σ H s->RelV o ov->RelV i iv->RelV v u->t o i v H Q->
  wpAny (model X.prog X.w) X.A (setItem ov iv u) (λ _ s'=>∃ H',Inv X pins σ H' s'/\Q H') X.xe s
section
variable {X:Cx}{pos:Pos}
def xk (i:Nat):TG:=λ v σ H Q=>Q (σ.set i (some v)) H
theorem Dz {i:Nat}{x:Str}(hN:X.N.Nodup)(hi:X.N[i]? = some x)(hx:Loc X.env.scope x)(hf:X.fn x=true∨X.env.scope.names.lookup x=some .local:=by first|exact .inl rfl|exact .inr rfl|assumption):PG X (.Name x pos) (xk i):=by
 intro pins s σ H v u Q I r h
 exact wpAny_assign_Name (jR I hN hi hx r (λ s' I'=>⟨_,H,I',h⟩) hf)
def PU:Fw:=λ vs σ H Q=>vs=[]/\Q σ H
def L6 (t:TG)(u:Fw):Fw:=λ vs σ H Q=>∃ v r,vs=v :: r/\t v σ H λ σ' H'=>u r σ' H' Q
theorem Dy:xJ X [] PU:=by
 intro pins s σ H vs us Q I r h
 obtain⟨e,h⟩:=h
 subst e
 cases r
 exact assignInOrder_nil ⟨σ,H,I,h⟩
theorem z9 {e:Expr}{es:List Expr}{t:TG}{u:Fw}(h1:PG X e t)(h2:xJ X es u)
  (hs:(assignEach (e :: es) X.env).map (·.2)=assign e X.env :: (assignEach es X.env).map (·.2):=by rfl):xJ X (e :: es) (L6 t u):=by
 intro pins s σ H vs us Q I r h
 obtain⟨v,vr,e1,h⟩:=h
 subst e1
 cases r with
 | cons r rr=>
  rw[hs]
  refine assignInOrder_cons (bI (h1 pins s σ H _ _ _ I r h) λ _ s1 ⟨σ1,H1,I1,q1⟩=>?_)
  exact h2 pins s1 σ1 H1 _ _ Q I1 rr q1
def PQ (K:PySem.W.Frag)(n:Nat)(t:Fw):TG:=λ v σ H Q=>∃ a xs,v=.ref a/\hW K H a xs/\xs.length=n/\t xs σ H Q
theorem G' {es:List Expr}{k:Nat}{t:Fw}{n:Nat}(hc:X.calm=true)(h:xJ X es t)
  (hn:(assignEach es X.env).length=n:=by rfl) (vW:(assignEach es X.env).findIdx? (·.1)=none:=by rfl):PG X (.Tuple es k pos) (PQ X.K n t):=by
 intro pins s σ H v u Q I r hw
 obtain⟨a,xs,e1,hq,hl,hw⟩:=hw
 subst e1
 cases r
 obtain⟨its,rv,ht,hz⟩:=I.tuple hq
 refine assign_Tuple_tuple (I.ok.hd hc) ht (by simp[hn,<-hl,rv.length]) vW λ h' hx=>?_
 have I1:Inv X pins σ H { s with heap:=h' }:=I.kept (t':=s.toks) λ b o e=>hx b o (Nat.ne_of_lt (Heap.lt_size e)) e
 exact h pins _ σ H xs _ Q I1 (by simpa using rv) hw
def PR (to ti:TE)(t:Jq):TG:=λ v σ H Q=>to σ H λ o H1=>ti σ H1 λ i H2=>t o i v H2 λ H3=>Q σ H3
theorem z_ {o i:Expr}{to ti:TE}{t:Jq}(ho:PE X o to)(hi:PE X i ti)(hs:Jr X t)
  (ha:∀ v,assign (.Subscript o i pos) X.env v=(do
   let ov <-holding [v] (eval o X.env)
   let iv <-holding [v,ov] (eval i X.env)
   standAt pos
   holding [v,ov,iv] (setItem ov iv v)
   release [v,ov,iv] []):=by intro _;rfl):PG X (.Subscript o i pos) (PR to ti t):=by
 intro pins s σ H v u Q I r h
 rw[ha]
 refine wpAny_bind (wpAny_holding (bI (ho pins s σ H _ I h) λ ov s1 ⟨x,H1,I1,r1,q1⟩=>?_))
 refine wpAny_bind (wpAny_holding (bI (hi pins s1 σ H1 _ I1 q1) λ iv s2 ⟨y,H2,I2,r2,q2⟩=>?_))
 refine wpAny_bind (wpAny_standAt (wpAny_bind (wpAny_holding (bI (hs pins s2 σ H2 x y v ov iv u _ I2 r1 r2 r q2) λ _ s3 ⟨H3,I3,q3⟩=>?_))))
 exact wpAny_release ⟨σ,H3,I3,q3⟩
def CQ (te:TE)(g:TG):TS:=λ D σ H=>te σ H λ x H1=>g x σ H1 D.nx
theorem G7 {tg e:Expr}{te:TE}{g:TG}(he:PE X e te)(hg:PG X tg g)(hs:swapsWithSole [tg] e pos.line X.env=pure false:=by rfl)(hw:swappedStores [tg] e X.env=pure none:=by rfl)
  (h1:(assignEach [tg] X.env).map (·.2)=[assign tg X.env]:=by rfl):PS X (.Assign [tg] e pos) (CQ te g):=by
 intro pins s σ H D I h
 refine wpAny_Assign_stores (bI (he pins s σ H _ I h) λ v s1 ⟨x,H1,I1,r1,q1⟩=>?_) hs hw
 rw[h1]
 exact bI (hg pins s1 σ H1 x v _ I1 r1 q1) λ _ s2 q=>q
theorem G2 {i:Nat}{x:Str}{e:Expr}{te:TE}{pos':Pos}(hN:X.N.Nodup)(hi:X.N[i]? = some x)(hx:Loc X.env.scope x)(he:PE X e te)(hs:swapsWith e (some (.Name x pos')) pos.line X.env=pure false:=by rfl) (hf:X.fn x=true∨X.env.scope.names.lookup x=some .local:=by first|exact .inl rfl|exact .inr rfl|assumption) :
  PS X (.Assign [.Name x pos'] e pos) (CQ te (xk i)):=by
 intro pins s σ H D I h
 refine wpAny_Assign_Name (bI (he pins s σ H _ I h) λ v s1 ⟨y,H1,I1,r1,q1⟩=>?_) hs
 exact jR I1 hN hi hx r1 (λ s2 I2=>⟨_,H1,I2,q1⟩) hf
def NY (i j:Nat)(ta:TA):TS:=λ D σ H=>ta σ H λ vs H1=>∃ v w,vs=[v,w]/\D.nx ((σ.set i (some v)).set j (some w)) H1
theorem G4 {i j:Nat}{x y:Str}{a b:Expr}{ta:TA}{px py pt:Pos}{kt k2 G0} (hc:X.calm=true)(hN:X.N.Nodup)(hi:X.N[i]? = some x)(hj:X.N[j]? = some y)(qf:i≠j)
  (hx:X.env.scope.names.lookup x=some .local) (hy:X.env.scope.names.lookup y=some .local) (ha:PA X [a,b] ta)
  (hw:swappedStores [.Tuple [.Name x px,.Name y py] kt pt] (.Tuple [a,b] k2 G0) X.env=pure (some [x,y]))
  (hs:swapsWithSole [.Tuple [.Name x px,.Name y py] kt pt] (.Tuple [a,b] k2 G0) pos.line X.env=pure false:=by rfl) :
  PS X (.Assign [.Tuple [.Name x px,.Name y py] kt pt] (.Tuple [a,b] k2 G0) pos) (NY i j ta):=by
 intro pins s σ H D I h
 rw[exec_Assign_arm]
 refine wpAny_bind (wpAny_standAt ?_)
 rw[hs]
 refine wpAny_bind (wpAny_pure ?_)
 rw[if_neg (by decide)]
 refine wpAny_bind (Tuple_ (bI (ha _ pins s σ H _ I h) λ us s1 ⟨vs,H1,I1,r1,q1⟩=>?_))
 obtain⟨v,w,e1,q1⟩:=q1
 subst e1
 obtain⟨u1,u2,rfl,rv,se⟩:∃ u1 u2,us=[u1,u2]/\RelV v u1/\RelV w u2:=by
  cases r1 with
  | cons p q=>
   cases q with
   | cons p' q'=>
    cases q'
    exact⟨_,_,rfl,p,p'⟩
 refine wpAny_newObj_type ?_ (by show 2<=sizeLine;decide)
 have I2:Inv X pins σ H1 { s1 with heap:=s1.heap.push { cls:=.type "tuple",data:=.seq [u1,u2].toArray } }:=I1.kept (t':=s1.toks) λ b o e=>Heap.get?_push_of_some _ e
 rw[hw]
 refine wpAny_bind (wpAny_pure ?_)
 show wpAny (model X.prog X.w) X.A (do rule "assign.swapped-stores";let items <-unpackItems (.ref s1.heap.objs.size) 2 none;assignInOrder [λ v=>bindName X.env y v,λ v=>bindName X.env x v] items.reverse;pure Flow.next) _ _ _
 refine wpAny_bind (wpAny_rule (wpAny_bind (unpackItems_tuple (items:=#[u1,u2]) (I.ok.hd hc) (IsTup.new s1.heap _) λ h' EI=>?_)))
 have I3:=I2.kept (h':=h') (t':=s1.toks) λ b o e=>EI b o (Nat.ne_of_lt (Heap.lt_size e)) e
 show wpAny _ _ (assignInOrder [λ v=>bindName X.env y v,λ v=>bindName X.env x v] [u2,u1] >>= λ _=>pure Flow.next) _ _ _
 refine wpAny_bind (assignInOrder_cons (wpAny_bindName (jR I3 hN hj (.inl hy) se (λ s2 I4=>?_) (.inr hy))))
 refine assignInOrder_cons (wpAny_bindName (jR I4 hN hi (.inl hx) rv (λ s3 I5=>assignInOrder_nil (wpAny_pure ?_)) (.inr hx)))
 rw[List.set_comm _ _ (Ne.symm qf)]at I5
 exact⟨_,H1,I5,q1⟩
end
section
variable {X:Cx}{pos:Pos}
def Gu (c:TT)(tb:TS):TS:=λ D σ H=>∃ W:Nat->St->Hp->Prop,(∃ m,W m σ H)/\∀ m σ H,W m σ H->
 c σ H λ b H1=>if b=true then ∃ N:St->Hp->Prop,(∀ σ' H',N σ' H'->∃ m',m' < m/\W m' σ' H')/\tb { D with nx:=N,ct:=N,bk:=D.nx } σ H1 else D.nx σ H1
theorem zQ {c:Expr}{body:List Stmt}{tc:TT}{tb:TS}(hp:PassesOwn (model X.prog X.w) X.A X.env X.xe) (hc:PT X c tc)(hb:kI X body tb):PS X (.While c body [] pos) (Gu tc tb):=by
 intro pins s σ H D I h
 obtain⟨W,⟨m0,w0⟩,turn⟩:=h
 refine wpAny_While (codeAny_whileLoop (λ n s'=>∃ σ' H',Inv X pins σ' H' s'/\W n σ' H') ?_ m0 ⟨σ,H,I,w0⟩)
 rintro n s1 ⟨σ1,H1,I1,w1⟩
 refine wpAny_passesOwn hp (bI (hc pins s1 σ1 H1 _ I1 (turn n σ1 H1 w1)) λ b s2 ⟨H2,I2,q2⟩=>?_)
 cases b with
 | true=>
  obtain⟨N,hN,q2⟩:=q2
  rw[if_pos rfl]
  refine wpAny_passesOwn hp (bI (hb pins s2 σ1 H2 _ I2 q2) λ f s3 q3=>?_)
  cases f with
  | next=>
   obtain⟨σ3,H3,I3,n3⟩:=q3
   obtain⟨m',hm,w3⟩:=hN σ3 H3 n3
   exact⟨m',hm,σ3,H3,I3,w3⟩
  | cont=>
   obtain⟨σ3,H3,I3,n3⟩:=q3
   obtain⟨m',hm,w3⟩:=hN σ3 H3 n3
   exact⟨m',hm,σ3,H3,I3,w3⟩
  | brk=>exact q3
  | ret v=>exact q3
 | false=>
  rw[if_neg Bool.false_ne_true]
  exact wpAny_execs_nil ⟨σ1,H2,I2,q2⟩
end
structure It where
 go:Nat->Hp->Prop
 CD:Nat->Hp->V->Hp->Prop
 stop:Nat->Hp->Prop
def qC (X:Cx)(pins:List (Addr × Obj)) (H:Hp)(b:Addr):Prop:=
 H b=none/\b≠X.env.locals/\b∉X.fs/\(b∈X.ex∨X.gS.heap.objs.size<=b)/\(∀ x c,X.env.cells.lookup x=some c->c≠b)/\∀ p∈X.pn++pins,p.1≠b
theorem Inv.v7 {X:Cx}{pins:List (Addr × Obj)}{σ:St}{H H':Hp}{s:Shared}{b:Addr}(I:Inv X pins σ H s)(hb:s.heap.objs.size<=b)(hn:H' b=none):qC X pins H' b:=by
 refine⟨hn,Nat.ne_of_gt (Nat.lt_of_lt_of_le I.lt hb),I.OL hb,.inr (Nat.le_trans I.sz hb),λ x c e z=>?_,λ p hp z=>?_⟩
 ·obtain⟨v,q⟩:=I.cell x c e
  exact absurd (Nat.lt_of_lt_of_le q.lt (by rw[z];exact hb)) (Nat.lt_irrefl _)
 ·exact absurd (Nat.lt_of_lt_of_le (Heap.lt_size (I.pin p hp).1) (by rw[z];exact hb)) (Nat.lt_irrefl _)
structure Turn (P:Program)(w:World)(K:PySem.W.Frag)(tg:Expr)(J:It)(fp:List Addr)(it:Addr)(tn:Nat->Heap->Prop):Prop where
 mem:it∈fp
 obj:∀ i h,tn i h->∀ b∈fp,∃ o,h.get? b=some o/\∀ v,o.data≠.cell v
 keep:∀ i h h',tn i h->(∀ b∈fp,∀ o,h.get? b=some o->h'.get? b=some o)->tn i h'
 item:∀ (X:Cx),X.prog=P->X.w=w->X.K=K->X.calm=true->∀ (i:Nat) (pins:List (Addr × Obj)) (s:Shared) (σ:St) (H:Hp) (E:Value->Shared->Prop),Inv X pins σ H s->(∀ b∈fp,qC X pins H b)->tn i s.heap->J.go i H->
  wpAny (model P w) X.A (pyNext (.ref it)) (λ r s1=>∃ u,r=some u/\
   wpAny (model P w) X.A (letOwnedTupleGo tg (.ref it) u) (λ _ s2=>∃ x H',Inv X pins σ H' s2/\RelV x u/\J.CD i H x H'/\tn (i+1) s2.heap/\∀ b∈fp,H' b=none) E s1) E s
 done:∀ (X:Cx),X.prog=P->X.w=w->X.K=K->X.calm=true->∀ (i:Nat) (pins:List (Addr × Obj)) (s:Shared) (σ:St) (H:Hp) (E:Value->Shared->Prop),Inv X pins σ H s->(∀ b∈fp,qC X pins H b)->tn i s.heap->J.stop i H->
  wpAny (model P w) X.A (pyNext (.ref it)) (λ r s1=>r=none/\Inv X pins σ H s1) E s
 self:∀ (A:Around) (i:Nat) (s:Shared) (Q:Value->Shared->Prop) (E:Value->Shared->Prop),tn i s.heap->Q (.ref it) s->wpAny (model P w) A (pyIter (.ref it)) Q E s
abbrev TI:=St->Hp->(It->Hp->Prop)->Prop
def Rf (X:Cx)(pins:List (Addr × Obj)) (σ:St)(tg:Expr)(R:It->Hp->Prop)(Nk:Value)(s2:Shared):Prop:=
 ∃ (it:Addr) (fp:List Addr) (tn:Nat->Heap->Prop) (J:It) (H':Hp),Nk=.ref it/\Inv X pins σ H' s2/\Turn X.prog X.w X.K tg J fp it tn/\tn 0 s2.heap/\(∀ b∈fp,qC X pins H' b)/\R J H'
def PI (X:Cx)(tg iter:Expr)(wi:TI):Prop:=
 ∀ (pins:List (Addr × Obj)) (s:Shared) (σ:St) (H:Hp) (R:It->Hp->Prop),Inv X pins σ H s->wi σ H R->
  wpAny (model X.prog X.w) X.A (eval iter X.env) (λ v s1=>wpAny (model X.prog X.w) X.A (pyIter v) (Rf X pins σ tg R) X.xe s1) X.xe s
theorem Bv {M:Model}{A:Around}{E:Value->Shared->Prop}{s:Shared}{tg:Expr}{it:Addr}{u:Value}{o:Obj}{n:String}{vs:Array Value}{Q:Unit->Shared->Prop}(ho:s.heap.get? it=some o)(hc:o.cls=.type n)(hd:o.data=.fields vs)
    (hn:["enumerate","zip","dict_itemiterator","dict_reverseitemiterator","odict_iterator","itertools.zip_longest","itertools.pairwise"].contains n=false) (hQ:Q () s):wpAny M A (letOwnedTupleGo tg (.ref it) u) Q E s:=by
  unfold letOwnedTupleGo
  cases tg<;>first
    | exact wpAny_pure hQ
    | (cases u<;>first
        | exact wpAny_pure hQ
        | (refine wpAny_bind (wpAny_load ho ?_)
           rw[hc,hd]
           show wpAny M A (if (["enumerate","zip","dict_itemiterator","dict_reverseitemiterator","odict_iterator","itertools.zip_longest","itertools.pairwise"].contains n && vs[0]? == some (rawInt _))=true then _ else _) Q E s
           rw[if_neg (by intro h;rw[hn,Bool.false_and]at h;cases h)]
           exact wpAny_pure hQ))
def JM (K:PySem.W.Frag)(a:Addr):It:=
 ⟨λ i H=>∃ xs x,fB K H a xs/\xs[i]? = some x,λ i H x H'=>H'=H/\∀ xs,fB K H a xs->xs[i]? = some x,λ i H=>∃ xs,fB K H a xs/\xs.length<=i⟩
def M5 (K:PySem.W.Frag)(a:Addr):It:=
 ⟨λ i H=>∃ xs x,hW K H a xs/\xs[i]? = some x,λ i H x H'=>H'=H/\∀ xs,hW K H a xs->xs[i]? = some x,λ i H=>∃ xs,hW K H a xs/\xs.length<=i⟩
def JL (lo:Int)(n:Nat):It:=⟨λ i _=>i < n,λ i H x H'=>H'=H/\x=.int (lo+i),λ i _=>n<=i⟩
theorem qJ {P:Program}{w:World}{K:PySem.W.Frag}{tg:Expr}(a it:Addr):Turn P w K tg (JM K a) [it] it (λ i h=>h.IsListIter it a i) where
 mem:=by simp
 obj:=λ i h st b hb=>by
  have e:b=it:=by simpa using hb
  subst e
  obtain⟨o,e,c,d⟩:=st
  exact⟨o,e,λ v z=>by rw[d]at z;cases z⟩
 keep:=λ i h h' st k=>st.at λ o e=>k it (by simp) o e
 item:=by
  intro X hP hw hK hc i pins s σ H E I hf st hg
  subst hP hw hK
  obtain⟨xs,x,hq,hx⟩:=hg
  obtain⟨its,rv,p,hz⟩:=I.list hq
  obtain⟨u,hu,ru⟩:=rv.get hx
  obtain⟨f0,f1,f2,f3,f4,f5⟩:=hf it (by simp)
  refine wpAny_pyNext_list_item st p.isList (x:=u) (by simpa using hu) λ h' qj sb=>?_
  have I1:Inv X pins σ H { s with heap:=h' }:=I.turned (t':=s.toks) (λ b o hb e=>(sb.2 b hb).trans e) f0 f1 f3 f4 f5
  obtain⟨o,e,c,d⟩:=id qj
  exact⟨u,rfl,Bv (s:={ s with heap:=h' }) e c d (by decide) ⟨x,H,I1,ru,⟨rfl,λ ys hy=>by rw[I.pN hy hq];exact hx⟩,qj,λ b hb=>(hf b hb).1⟩⟩
 done:=by
  intro X hP hw hK hc i pins s σ H E I hf st hg
  subst hP hw hK
  obtain⟨xs,hq,hx⟩:=hg
  obtain⟨its,rv,p,hz⟩:=I.list hq
  obtain⟨f0,f1,f2,f3,f4,f5⟩:=hf it (by simp)
  have hl:=rv.length
  exact wpAny_pyNext_list_end (I.ok.hd hc) st p.isList (by simp;omega) λ h' eb=>⟨rfl,I.turned (t':=s.toks) (λ b o hb e=>eb b o hb e) f0 f1 f3 f4 f5⟩
 self:=λ _ _ _ _ _ st h=>wpAny_pyIter_listiter st h
theorem vm {P:Program}{w:World}{K:PySem.W.Frag}{tg:Expr}(a it:Addr):Turn P w K tg (M5 K a) [it] it (λ i h=>h.IsTupleIter it a i) where
 mem:=by simp
 obj:=λ i h st b hb=>by
  have e:b=it:=by simpa using hb
  subst e
  obtain⟨o,e,c,d⟩:=st
  exact⟨o,e,λ v z=>by rw[d]at z;cases z⟩
 keep:=λ i h h' st k=>st.at λ o e=>k it (by simp) o e
 item:=by
  intro X hP hw hK hc i pins s σ H E I hf st hg
  subst hP hw hK
  obtain⟨xs,x,hq,hx⟩:=hg
  obtain⟨its,rv,p,hz⟩:=I.tuple hq
  obtain⟨u,hu,ru⟩:=rv.get hx
  obtain⟨f0,f1,f2,f3,f4,f5⟩:=hf it (by simp)
  refine wpAny_pyNext_tuple_item st (show s.heap.IsTuple a its.toArray from p) (x:=u) (by simpa using hu) λ h' qj sb=>?_
  have I1:Inv X pins σ H { s with heap:=h' }:=I.turned (t':=s.toks) (λ b o hb e=>(sb.2 b hb).trans e) f0 f1 f3 f4 f5
  obtain⟨o,e,c,d⟩:=id qj
  exact⟨u,rfl,Bv (s:={ s with heap:=h' }) e c d (by decide) ⟨x,H,I1,ru,⟨rfl,λ ys hy=>by rw[I.mU hy hq];exact hx⟩,qj,λ b hb=>(hf b hb).1⟩⟩
 done:=by
  intro X hP hw hK hc i pins s σ H E I hf st hg
  subst hP hw hK
  obtain⟨xs,hq,hx⟩:=hg
  obtain⟨its,rv,p,hz⟩:=I.tuple hq
  obtain⟨f0,f1,f2,f3,f4,f5⟩:=hf it (by simp)
  have hl:=rv.length
  exact wpAny_pyNext_tuple_end (I.ok.hd hc) st (show s.heap.IsTuple a its.toArray from p) (by simp;omega) λ h' eb=>⟨rfl,I.turned (t':=s.toks) (λ b o hb e=>eb b o hb e) f0 f1 f3 f4 f5⟩
 self:=λ _ _ _ _ _ st h=>wpAny_pyIter_tupleiter st h
theorem vn {P:Program}{w:World}{K:PySem.W.Frag}{tg:Expr}(it:Addr)(lo:Int)(n:Nat):Turn P w K tg (JL lo n) [it] it (λ i h=>IsRangeIter h it (lo+(i:Nat) * 1) ((n:Int) - (i:Nat)) 1) where
 mem:=by simp
 obj:=λ i h st b hb=>by
  have e:b=it:=by simpa using hb
  subst e
  exact⟨_,st,λ v z=>by
   have z':Data.fields _=Data.cell v:=z
   cases z'⟩
 keep:=λ i h h' st k=>k it (by simp) _ st
 item:=by
  intro X hP hw hK hc i pins s σ H E I hf st hg
  subst hP hw hK
  obtain⟨f0,f1,f2,f3,f4,f5⟩:=hf it (by simp)
  have W:=Walks.range (prog:=X.prog) (w:=X.w) (I.ok.hd hc) it lo 1 n
  refine W.item i s _ _ hg st λ v h' tk hv qj kk=>?_
  obtain⟨t,rfl⟩:=hv
  have I1:Inv X pins σ H { s with heap:=h',toks:=tk }:=I.turned (λ b o hb e=>kk b o (by simpa using hb) e) f0 f1 f3 f4 f5
  refine⟨_,rfl,Bv (s:={ s with heap:=h',toks:=tk }) (n:="range_iterator") qj rfl rfl (by decide) ⟨.int (lo+i),H,I1,⟨t,?_⟩,⟨rfl,rfl⟩,qj,λ b hb=>(hf b hb).1⟩⟩
  rw[Int.mul_one]
 done:=by
  intro X hP hw hK hc i pins s σ H E I hf st hg
  subst hP hw hK
  obtain⟨f0,f1,f2,f3,f4,f5⟩:=hf it (by simp)
  exact wpAny_pyNext_range_end (I.ok.hd hc) st (by have:n<=i:=hg;omega) λ h' eb=>⟨rfl,I.turned (t':=s.toks) (λ b o hb e=>eb b o hb e) f0 f1 f3 f4 f5⟩
 self:=λ _ _ _ _ _ st h=>wpAny_pyIter_rangeiter st h
end L2
namespace L2
open PySem PySem.Spec PyProof.Rows
section
variable {X:Cx}{tg:Expr}
def Lw (K:PySem.W.Frag)(tl:TE):TI:=λ σ H R=>tl σ H λ x H1=>∃ a,x=.ref a/\(∃ xs,fB K H1 a xs)/\R (JM K a) H1
theorem Dw {l:Expr}{tl:TE}(hl:PE X l tl):PI X tg l (Lw X.K tl):=by
 intro pins s σ H R I h
 refine bI (hl pins s σ H _ I h) λ v s1 ⟨x,H1,I1,r1,q1⟩=>?_
 obtain⟨a,e,⟨xs,hq⟩,q⟩:=q1
 subst e
 cases r1
 obtain⟨its,rv,p,hz⟩:=I1.list hq
 refine wpAny_pyIter_list p.isList ?_
 refine⟨s1.heap.objs.size,[s1.heap.objs.size],_,_,H1,rfl,I1.kept (t':=s1.toks) λ b o e=>Heap.get?_push_of_some _ e,qJ a _,⟨_,Heap.get?_push_size _ rfl,rfl,rfl⟩,λ b hb=>?_,q⟩
 have e:b=s1.heap.objs.size:=by simpa using hb
 subst e
 exact I1.v7 (Nat.le_refl _) (I1.aX.fresh (Nat.le_refl _))
theorem zK {pins:List (Addr × Obj)}{σ:St}{H:Hp}{s:Shared}{R:It->Hp->Prop}{E:Value->Shared->Prop}{lo hi:Int}{t u v:Tok}{tk:Nat}(I:Inv X pins σ H s)(h1:-(2 ^ 62)<=lo) (h2:lo < 2 ^ 62)(h3:-(2 ^ 62)<=hi) (h4:hi < 2 ^ 62)
  (q:R (JL lo (hi - lo).toNat) H):wpAny (model X.prog X.w) X.A (pyIter (.ref s.heap.objs.size)) (Rf X pins σ tg R) E { s with heap:=s.heap.push { cls:=.type "range",data:=.fields #[.int lo t,.int hi u,.int 1 v] },toks:=tk }:=by
 refine wpAny_pyIter_range (IsRange.new ..) (small_one h1 h2 h3 h4) ?_
 have I1:Inv X pins σ H { s with heap:=s.heap.push { cls:=.type "range",data:=.fields #[.int lo t,.int hi u,.int 1 v] },toks:=tk }:=I.kept λ b o e=>Heap.get?_push_of_some _ e
 refine⟨(s.heap.push { cls:=.type "range",data:=.fields #[.int lo t,.int hi u,.int 1 v] }).objs.size,[(s.heap.push { cls:=.type "range",data:=.fields #[.int lo t,.int hi u,.int 1 v] }).objs.size],_,_,H,rfl,
  I1.kept (t':=tk) λ b o e=>Heap.get?_push_of_some _ e,vn _ lo (hi - lo).toNat,?_,λ b hb=>?_,q⟩
 ·have e1:lo+((0:Nat):Int) * 1=lo:=by simp
  have e2:(((hi - lo).toNat:Nat):Int) - ((0:Nat):Int)=Builtin.Range.rangeSize lo hi 1:=by rw[rangeSize_one];split<;>omega
  show IsRangeIter _ _ (lo+((0:Nat):Int) * 1) ((((hi - lo).toNat:Nat):Int) - ((0:Nat):Int)) 1
  rw[e1,e2]
  exact Heap.get?_push_size _ rfl
 ·have e:b=(s.heap.push { cls:=.type "range",data:=.fields #[.int lo t,.int hi u,.int 1 v] }).objs.size:=by simpa using hb
  subst e
  exact I1.v7 (Nat.le_refl _) (I1.aX.fresh (Nat.le_refl _))
def Lv (ta:TA):TI:=λ σ H R=>ta σ H λ vs H1=>∃ j:Int,vs=[.int j]/\-(2 ^ 62)<=j/\j < 2 ^ 62/\R (JL 0 j.toNat) H1
theorem yb {a:Expr}{ta:TA}{p pos:Pos}(hg:Gl X "range")(hm:X.mg "range"=none)(ha:PA X [a] ta)(hs:starEach [a] X.env=[(false,eval a X.env)]:=by rfl):PI X tg (.Call (.Name "range" p) [a] [] pos) (Lv ta):=by
 intro pins s σ H R I h
 refine Call_ (lK I hg hm boot_range (PyProof.Rows.callWith_type1 (bI (ha pos pins s σ H _ I h) λ us s1 ⟨vs,H1,I1,r1,q1⟩=>?_) hs rfl))
 obtain⟨j,e,q1,q2,q⟩:=q1
 subst e
 cases r1 with
 | cons r rr=>
  cases rr
  obtain⟨t,rfl⟩:=r
  exact call_range_1 (zK I1 (by omega) (by omega) q1 q2 (by simpa using q))
def N6 (wi:TI)(g:TG)(tb:TS):TS:=λ D σ H=>wi σ H λ J H1=>∃ W:Nat->Nat->St->Hp->Prop,(∃ m,W 0 m σ H1)/\∀ i m σ H,W i m σ H->
 (J.stop i H/\D.nx σ H)∨(J.go i H/\∃ N:St->Hp->Prop,(∀ σ' H',N σ' H'->∃ m',m' < m/\W (i+1) m' σ' H')/\∀ x H',J.CD i H x H'->g x σ H' λ σ2 H2=>tb { D with nx:=N,ct:=N,bk:=D.nx } σ2 H2)
def pk (fp:List Addr)(h:Heap):List (Addr × Obj):=fp.filterMap λ b=>(h.get? b).map λ o=>(b,o)
theorem ji {fp:List Addr}{h:Heap}{b:Addr}{o:Obj}(hb:b∈fp)(e:h.get? b=some o):(b,o)∈pk fp h:=List.mem_filterMap.mpr ⟨b,hb,by rw[e];rfl⟩
theorem yh {fp:List Addr}{h:Heap}{p:Addr × Obj}(hp:p∈pk fp h):p.1∈fp/\h.get? p.1=some p.2:=by
 obtain⟨b,hb,e⟩:=List.mem_filterMap.mp hp
 cases q:h.get? b with
 | none=>rw[q]at e;cases e
 | some o=>
  rw[q]at e
  have e':(b,o)=p:=Option.some.inj e
  subst e'
  exact⟨hb,q⟩
theorem Inv.pinned {pins:List (Addr × Obj)}{σ:St}{H:Hp}{s:Shared}{fp:List Addr}(I:Inv X pins σ H s)(hf:∀ b∈fp,qC X pins H b)(ho:∀ b∈fp,∃ o,s.heap.get? b=some o/\∀ v,o.data≠.cell v):Inv X (pins++pk fp s.heap) σ H s:=
 I.wH λ p hp=>(List.mem_append.mp hp).elim (λ z=>I.pin p (List.mem_append_right _ z)) λ z=>by
  obtain⟨hb,e⟩:=yh z
  obtain⟨f0,f1,f2,_⟩:=hf p.1 hb
  obtain⟨o,e',d⟩:=ho p.1 hb
  rw[e]at e';cases e'
  exact⟨e,f0,f1,f2,d⟩
theorem Inv.l8 {pins pl:List (Addr × Obj)}{σ:St}{H:Hp}{s:Shared}(I:Inv X (pins++pl) σ H s):Inv X pins σ H s:=I.wH λ p hp=>I.pin p (List.mem_append_right _ (List.mem_append_left _ hp))
theorem G5 {iter:Expr}{body:List Stmt}{wi:TI}{g:TG}{tb:TS}{pos:Pos}(hp:PassesOwn (model X.prog X.w) X.A X.env X.xe) (hc:X.calm=true)(hi:PI X tg iter wi)(hg:PG X tg g)(hb:kI X body tb)
  (hs:∀ x,foldedSetIterable iter X.env x=pure x:=by intro _;rfl):PS X (.For tg iter body [] pos) (N6 wi g tb):=by
 intro pins s σ H D I h
 refine wpAny_For (bI (hi pins s σ H _ I h) λ v s1 h1=>bI h1 λ Nk s2 h2=>?_) hs
 obtain⟨it,fp,tn,J,H2,e,I2,T,Ci,f2,W,⟨m0,w0⟩,turn⟩:=h2
 subst e
 have GD:∀ {H':Hp},(∀ b∈fp,H' b=none)->∀ b∈fp,qC X pins H' b:=λ hn b hb=>⟨hn b hb,(f2 b hb).2⟩
 refine codeAny_forLoop_any (λ n s'=>∃ i σ' H',Inv X pins σ' H' s'/\tn i s'.heap/\(∀ b∈fp,H' b=none)/\W i n σ' H') ?_ m0 ⟨0,σ,H2,I2,Ci,λ b hb=>(f2 b hb).1,w0⟩
 rintro n s3 ⟨i,σ3,H3,I3,CT,Q7,w3⟩
 rcases turn i n σ3 H3 w3 with⟨stop,qn⟩|⟨go,N,hN,step⟩
 ·refine wpAny_passesOwn hp (bI (T.done X rfl rfl rfl hc i pins s3 σ3 H3 X.xe I3 (GD Q7) CT stop) λ r s4 ⟨hr,I4⟩=>?_)
  subst hr
  exact wpAny_execs_nil ⟨σ3,H3,I4,qn⟩
 ·refine wpAny_passesOwn hp (bI (T.item X rfl rfl rfl hc i pins s3 σ3 H3 X.xe I3 (GD Q7) CT go) λ r s4 ⟨u,hr,h4⟩=>?_)
  subst hr
  refine wpAny_passesOwn hp (bI h4 λ _ s5 ⟨x,H5,I5,r5,y5,Ju,NA⟩=>?_)
  have I5':=I5.pinned (GD NA) (T.obj _ _ Ju)
  refine wpAny_passesOwn hp (bI (hg _ s5 σ3 H5 x u _ I5' r5 (step x H5 y5)) λ _ s6 ⟨σ6,H6,I6,q6⟩=>?_)
  refine wpAny_passesOwn hp (bI (hb _ s6 σ6 H6 _ I6 q6) λ f s7 q7=>?_)
  have again:∀ {σ7:St}{H7:Hp},Inv X (pins++pk fp s5.heap) σ7 H7 s7->N σ7 H7->∃ m,m < n/\∃ i σ' H',Inv X pins σ' H' s7/\tn i s7.heap/\(∀ b∈fp,H' b=none)/\W i m σ' H':=λ {σ7 H7} I7 n7=>by
   obtain⟨m',hm,w7⟩:=hN σ7 H7 n7
   refine⟨m',hm,i+1,σ7,H7,I7.l8,T.keep _ _ _ Ju λ b hb o e=>(I7.pin (b,o) (List.mem_append_right _ (List.mem_append_right _ (ji hb e)))).1,λ b hb=>?_,w7⟩
   obtain⟨o,e,d⟩:=T.obj _ _ Ju b hb
   exact(I7.pin (b,o) (List.mem_append_right _ (List.mem_append_right _ (ji hb e)))).2.1
  cases f with
  | next=>obtain⟨σ7,H7,I7,n7⟩:=q7;exact again I7 n7
  | cont=>obtain⟨σ7,H7,I7,n7⟩:=q7;exact again I7 n7
  | brk=>obtain⟨σ7,H7,I7,q7⟩:=q7;exact⟨σ7,H7,I7.l8,q7⟩
  | ret v=>obtain⟨x7,σ7,H7,I7,r7,q7⟩:=q7;exact⟨x7,σ7,H7,I7.l8,r7,q7⟩
end
end L2
namespace L2
open PySem PySem.Spec PyProof.Rows
abbrev R2:=V->V->Hp->VK->Prop
def iC (X:Cx)(f:Value->Value->Sem Value)(r:R2):Prop:=
 ∀ (pins:List (Addr × Obj)) (s:Shared) (σ:St) (H:Hp) (x y:V) (v u:Value) (Q:VK),Inv X pins σ H s->RelV x v->RelV y u->r x y H Q->
  wpAny (model X.prog X.w) X.A (f v u) (EP X pins σ Q) X.xe s
def M0 (X:Cx)(f:Value->Sem Value)(r:V->Hp->VK->Prop):Prop:=
 ∀ (pins:List (Addr × Obj)) (s:Shared) (σ:St) (H:Hp) (x:V) (v:Value) (Q:VK),Inv X pins σ H s->RelV x v->r x H Q->
  wpAny (model X.prog X.w) X.A (f v) (EP X pins σ Q) X.xe s
def dP (X:Cx)(f:Value)(r:List V->Hp->VK->Prop):Prop:=
 ∀ (pins:List (Addr × Obj)) (s:Shared) (σ:St) (H:Hp) (xs:List V) (us:List Value) (Q:VK),Inv X pins σ H s->Vals xs us->r xs H Q->
  wpAny (model X.prog X.w) X.A (call f us) (EP X pins σ Q) X.xe s
def Qd (X:Cx)(r:V->Hp->(Bool->Hp->Prop)->Prop):Prop:=
 ∀ (pins:List (Addr × Obj)) (s:Shared) (σ:St) (H:Hp) (x:V) (v:Value) (Q:Bool->Hp->Prop),Inv X pins σ H s->RelV x v->r x H Q->
  wpAny (model X.prog X.w) X.A (truthy v) (TP X pins σ Q) X.xe s
def JX (r:R2)(ta tb:TE):TE:=λ σ H Q=>ta σ H λ x H1=>tb σ H1 λ y H2=>r x y H2 Q
def Ql (r:V->Hp->VK->Prop)(ta:TE):TE:=λ σ H Q=>ta σ H λ x H1=>r x H1 Q
def rI (C:Int->Int->Prop)(g:Int->Int->V):R2:=λ x y H Q=>∃ i j,x=.int i/\y=.int j/\C i j/\Q (g i j) H
def Jv (g:Int->Int->V):R2:=λ x y H Q=>∃ i j,x=.int i/\y=.int j/\Q (g i j) H
def rU (g:Int->V):V->Hp->VK->Prop:=λ x H Q=>∃ i,x=.int i/\Q (g i) H
section
variable {X:Cx}{a b c:Expr}{ta tb tc:TE}{pos:Pos}
theorem Jm (ha:PE X a ta)(hb:PE X b tb){pins:List (Addr × Obj)}{s:Shared}{σ:St}{H:Hp}{R:V->V->Hp->Prop}(I:Inv X pins σ H s)
  (h:ta σ H λ x H1=>tb σ H1 λ y H2=>R x y H2) {Q:Value->Shared->Prop}{f:Value->Value->Sem Value}
  (hf:∀ v u s2 x y H2,Inv X pins σ H2 s2->RelV x v->RelV y u->R x y H2->wpAny (model X.prog X.w) X.A (f v u) Q X.xe s2) :
  wpAny (model X.prog X.w) X.A (eval a X.env) (λ v s₁=>wpAny (model X.prog X.w) X.A (eval b X.env) (λ u s₂=>wpAny (model X.prog X.w) X.A (f v u) Q X.xe s₂) X.xe s₁) X.xe s:=by
 refine bI (ha pins s σ H _ I h) λ v s1 ⟨x,H1,I1,r1,q1⟩=>?_
 refine bI (hb pins s1 σ H1 _ I1 q1) λ u s2 ⟨y,H2,I2,r2,q2⟩=>?_
 exact hf v u s2 x y H2 I2 r1 r2 q2
theorem Ks {op:Operator}{r:R2}(ho:iC X (binaryOp op) r) (ha:PE X a ta)(hb:PE X b tb):PE X (.BinOp a op b pos) (JX r ta tb):=by
 intro pins s σ H Q I h
 exact wpAny_BinOp (Jm ha hb I h λ v u s2 x y H2 I2 rx ry q=>ho pins s2 σ H2 x y v u Q I2 rx ry q)
theorem Kq {op:UnaryOp}{r:V->Hp->VK->Prop}(ho:M0 X (unaryOp op) r) (ha:PE X a ta):PE X (.UnaryOp op a pos) (Ql r ta):=by
 intro pins s σ H Q I h
 exact UnaryOp_ (bI (ha pins s σ H _ I h) λ v s1 ⟨x,H1,I1,r1,q1⟩=>ho pins s1 σ H1 x v Q I1 r1 q1)
theorem Ng {f:Value->Value->Sem Value}{C:Int->Int->Prop}{g:Int->Int->Int}
  (rule:∀ (i j:Int) (t u:Tok) (s:Shared) (Q:Value->Shared->Prop) (E:Value->Shared->Prop),C i j->Q (.int (g i j) s.toks) { s with toks:=s.toks+1 }->wpAny (model X.prog X.w) X.A (f (.int i t) (.int j u)) Q E s) :
  iC X f (rI C λ i j=>.int (g i j)):=by
 intro pins s σ H x y v u Q I rx ry h
 obtain⟨i,j,rfl,rfl,hc,q⟩:=h
 obtain⟨t,rfl⟩:=rx
 obtain⟨t',rfl⟩:=ry
 exact rule i j t t' s _ _ hc ⟨.int (g i j),H,I.tok _,⟨_,rfl⟩,q⟩
theorem OC {f:Value->Value->Sem Value}{g:Int->Int->Int}
  (rule:∀ (i j:Int) (t u:Tok) (s:Shared) (Q:Value->Shared->Prop) (E:Value->Shared->Prop),Q (.int (g i j) s.toks) { s with toks:=s.toks+1 }->wpAny (model X.prog X.w) X.A (f (.int i t) (.int j u)) Q E s) :
  iC X f (Jv λ i j=>.int (g i j)):=by
 intro pins s σ H x y v u Q I rx ry h
 obtain⟨i,j,rfl,rfl,q⟩:=h
 obtain⟨t,rfl⟩:=rx
 obtain⟨t',rfl⟩:=ry
 exact rule i j t t' s _ _ ⟨.int (g i j),H,I.tok _,⟨_,rfl⟩,q⟩
theorem Hw {f:Value->Value->Sem Value}{g:Int->Int->Bool}
  (rule:∀ (i j:Int) (t u:Tok) (s:Shared) (Q:Value->Shared->Prop) (E:Value->Shared->Prop),Q (.bool (g i j)) s->wpAny (model X.prog X.w) X.A (f (.int i t) (.int j u)) Q E s) :
  iC X f (Jv λ i j=>.bl (g i j)):=by
 intro pins s σ H x y v u Q I rx ry h
 obtain⟨i,j,rfl,rfl,q⟩:=h
 obtain⟨t,rfl⟩:=rx
 obtain⟨t',rfl⟩:=ry
 exact rule i j t t' s _ _ ⟨.bl (g i j),H,I,rfl,q⟩
def Fy (i j:Int):Prop:=0<=j/\j<=1000000/\i.natAbs < 2 ^ 64
theorem Hu:iC X (binaryOp .Add) (Jv λ i j=>.int (i+j)):=OC λ _ _ _ _ _ _ _ q=>add_int q
theorem DJ:iC X (binaryOp .Mod) (rI (λ _ j=>j≠0) λ i j=>.int (i.fmod j)):=Ng λ _ _ _ _ _ _ _ hc q=>mod_int' hc q
theorem Ho:iC X (binaryOp .Pow) (rI Fy λ i j=>.int (i ^ j.toNat)):=Ng λ _ _ _ _ _ _ _ hc q=>pow_int_small hc.1 hc.2.1 hc.2.2 q
theorem Rm {f:Value->Sem Value}{g:Int->Int}
  (rule:∀ (i:Int) (t:Tok) (s:Shared) (Q:Value->Shared->Prop) (E:Value->Shared->Prop),Q (.int (g i) s.toks) { s with toks:=s.toks+1 }->wpAny (model X.prog X.w) X.A (f (.int i t)) Q E s) :
  M0 X f (rU λ i=>.int (g i)):=by
 intro pins s σ H x v Q I rx h
 obtain⟨i,rfl,q⟩:=h
 obtain⟨t,rfl⟩:=rx
 exact rule i t s _ _ ⟨.int (g i),H,I.tok _,⟨_,rfl⟩,q⟩
theorem Gq:M0 X (unaryOp .USub) (rU λ i=>.int (-i)):=Rm λ _ _ _ _ _ q=>neg_int q
end
def GJ:V->V->Bool
 | .aC,.aC=>true|.aC,.int _=>true|.int _,.aC=>true|.aC,.bl _=>true|.bl _,.aC=>true|.aC,.str _=>true|.str _,.aC=>true
 | .int _,.int _=>true|.bl _,.bl _=>true|.str _,.str _=>true|.wb _,.wb _=>true
 | .int _,.str _=>true|.str _,.int _=>true|.bl _,.str _=>true|.str _,.bl _=>true
 | _,_=>false
def RD:R2:=λ x y H Q=>GJ x y=true/\Q (.bl (decide (x=y))) H
def RC:R2:=λ x y H Q=>GJ x y=true/\Q (.bl (!decide (x=y))) H
theorem xu {i j:Int}:decide (V.int i=V.int j)=(i == j):=by
 rw[Bool.eq_iff_iff]
 simp
theorem BS {i j:Bool}:decide (V.bl i=V.bl j)=(i == j):=by
 rw[Bool.eq_iff_iff]
 simp
theorem xt {i j:Str}:decide (V.str i=V.str j)=(i == j):=by
 rw[Bool.eq_iff_iff]
 simp
theorem xx {i j:Array UInt8}:decide (V.wb i=V.wb j)=(i.toList == j.toList):=by
 rw[Bool.eq_iff_iff]
 cases i
 cases j
 simp
section
variable {X:Cx}{a b c:Expr}{ta tb tc:TE}{pos:Pos}
theorem a_ {pins:List (Addr × Obj)}{σ:St}{H:Hp}{s:Shared}{Q:VK}{k k':Bool}(I:Inv X pins σ H s)(q:Q (.bl k) H) (e:k=k'):EP X pins σ Q (.bool k') s:=by
 subst e
 exact⟨.bl k,H,I,rfl,q⟩
theorem KC:iC X (compareOp .Eq) RD:=by
 intro pins s σ H x y v u Q I rx ry h
 obtain⟨hs,q⟩:=h
 cases x with
 | aC=>
  cases rx
  cases y with
  | aC=>cases ry;exact PySem.EqNone.eq_none_none (a_ I q (by simp))
  | bl j=>cases ry;exact PySem.EqNone.eq_none_bool (a_ I q (by simp))
  | int j=>obtain⟨t',rfl⟩:=ry;exact PySem.EqNone.eq_none_int (a_ I q (by simp))
  | str j=>obtain⟨t',rfl⟩:=ry;exact PySem.EqNone.eq_none_str (a_ I q (by simp))
  | _=>exact absurd (show false=true from hs) Bool.false_ne_true
 | bl i=>
  cases rx
  cases y with
  | aC=>cases ry;exact PySem.EqNone.eq_bool_none (a_ I q (by simp))
  | bl j=>cases ry;exact eq_bool (a_ I q BS)
  | str j=>obtain⟨t',rfl⟩:=ry;exact PySem.EqMixed.eq_bool_str (a_ I q (by simp))
  | _=>exact absurd (show false=true from hs) Bool.false_ne_true
 | int i=>
  obtain⟨t,rfl⟩:=rx
  cases y with
  | aC=>cases ry;exact PySem.EqNone.eq_int_none (a_ I q (by simp))
  | int j=>obtain⟨t',rfl⟩:=ry;exact eq_int (a_ I q xu)
  | str j=>obtain⟨t',rfl⟩:=ry;exact PySem.EqMixed.eq_int_str (a_ I q (by simp))
  | _=>exact absurd (show false=true from hs) Bool.false_ne_true
 | str i=>
  obtain⟨t,rfl⟩:=rx
  cases y with
  | aC=>cases ry;exact PySem.EqNone.eq_str_none (a_ I q (by simp))
  | bl j=>cases ry;exact PySem.EqMixed.eq_str_bool (a_ I q (by simp))
  | int j=>obtain⟨t',rfl⟩:=ry;exact PySem.EqMixed.eq_str_int (a_ I q (by simp))
  | str j=>obtain⟨t',rfl⟩:=ry;exact eq_str (a_ I q xt)
  | _=>exact absurd (show false=true from hs) Bool.false_ne_true
 | wb i=>
  obtain⟨t,rfl⟩:=rx
  cases y with
  | wb j=>obtain⟨t',rfl⟩:=ry;exact PySem.W.eq_bytes (a_ I q xx)
  | _=>exact absurd (show false=true from hs) Bool.false_ne_true
 | _=>cases y<;>exact absurd (show false=true from hs) Bool.false_ne_true
theorem Kx:iC X (compareOp .NotEq) RC:=by
 intro pins s σ H x y v u Q I rx ry h
 obtain⟨hs,q⟩:=h
 cases x with
 | aC=>
  cases rx
  cases y with
  | aC=>cases ry;exact PySem.EqNone.ne_none_none (a_ I q (by simp))
  | bl j=>cases ry;exact PySem.EqNone.ne_none_bool (a_ I q (by simp))
  | int j=>obtain⟨t',rfl⟩:=ry;exact PySem.EqNone.ne_none_int (a_ I q (by simp))
  | str j=>obtain⟨t',rfl⟩:=ry;exact PySem.EqNone.ne_none_str (a_ I q (by simp))
  | _=>exact absurd (show false=true from hs) Bool.false_ne_true
 | bl i=>
  cases rx
  cases y with
  | aC=>cases ry;exact PySem.EqNone.ne_bool_none (a_ I q (by simp))
  | bl j=>cases ry;exact ne_bool (a_ I q (congrArg not BS))
  | str j=>obtain⟨t',rfl⟩:=ry;exact PySem.EqMixed.ne_bool_str (a_ I q (by simp))
  | _=>exact absurd (show false=true from hs) Bool.false_ne_true
 | int i=>
  obtain⟨t,rfl⟩:=rx
  cases y with
  | aC=>cases ry;exact PySem.EqNone.ne_int_none (a_ I q (by simp))
  | int j=>obtain⟨t',rfl⟩:=ry;exact ne_int (a_ I q (congrArg not xu))
  | str j=>obtain⟨t',rfl⟩:=ry;exact PySem.EqMixed.ne_int_str (a_ I q (by simp))
  | _=>exact absurd (show false=true from hs) Bool.false_ne_true
 | str i=>
  obtain⟨t,rfl⟩:=rx
  cases y with
  | aC=>cases ry;exact PySem.EqNone.ne_str_none (a_ I q (by simp))
  | bl j=>cases ry;exact PySem.EqMixed.ne_str_bool (a_ I q (by simp))
  | int j=>obtain⟨t',rfl⟩:=ry;exact PySem.EqMixed.ne_str_int (a_ I q (by simp))
  | str j=>obtain⟨t',rfl⟩:=ry;exact ne_str (a_ I q (congrArg not xt))
  | _=>exact absurd (show false=true from hs) Bool.false_ne_true
 | wb i=>
  obtain⟨t,rfl⟩:=rx
  cases y with
  | wb j=>obtain⟨t',rfl⟩:=ry;exact PySem.W.ne_bytes (a_ I q (congrArg not xx))
  | _=>exact absurd (show false=true from hs) Bool.false_ne_true
 | _=>cases y<;>exact absurd (show false=true from hs) Bool.false_ne_true
theorem Ky:iC X (compareOp .Lt) (Jv λ i j=>.bl (decide (i < j))):=Hw λ _ _ _ _ _ _ _ q=>lt_int q
theorem Kz:iC X (compareOp .Gt) (Jv λ i j=>.bl (decide (j < i))):=Hw λ _ _ _ _ _ _ _ q=>gt_int q
theorem KA:iC X (compareOp .GtE) (Jv λ i j=>.bl (decide (j<=i))):=Hw λ _ _ _ _ _ _ _ q=>ge_int q
theorem ye:iC X (compareOp .Lt) (λ x y H Q=>∃ i j,x=.str i/\y=.str j/\Q (.bl (decide (i.cps.toList < j.cps.toList))) H):=by
 intro pins s σ H x y v u Q I rx ry h
 obtain⟨i,j,rfl,rfl,q⟩:=h
 obtain⟨t,rfl⟩:=rx
 obtain⟨t',rfl⟩:=ry
 exact lt_str (a_ I q rfl)
theorem Hr:iC X (compareOp .Is) (λ x y H Q=>y=.aC/\Q (.bl (decide (x=.aC))) H):=by
 intro pins s σ H x y v u Q I rx ry h
 obtain⟨rfl,q⟩:=h
 cases ry
 refine is_none_gen (a_ I q ?_)
 cases x<;>first
  | (cases rx;rfl)
  | (obtain⟨t,rfl⟩:=rx;rfl)
theorem DG {op:CmpOp}{r:R2}(ho:iC X (compareOp op) r) (ha:PE X a ta)(hb:PE X b tb)(hm:behindInMarks op b=false):PE X (.Compare a [op] [b] pos) (JX r ta tb):=by
 intro pins s σ H Q I h
 exact wpAny_Compare1 (Jm ha hb I h λ v u s2 x y H2 I2 rx ry q=>ho pins s2 σ H2 x y v u Q I2 rx ry q) hm
def JV (t:TE):TT:=λ σ H Q=>t σ H λ x H'=>∃ k,x=.bl k/\Q k H'
theorem Di {op:CmpOp}{r:R2}(ho:iC X (compareOp op) r) (ha:PE X a ta)(hb:PE X b tb)(hm:behindInMarks op b=false):PT X (.Compare a [op] [b] pos) (JV (JX r ta tb)):=by
 intro pins s σ H Q I h
 refine wpAny_isTrue_Compare1 (bI (ha pins s σ H _ I h) λ v s1 ⟨x,H1,I1,r1,q1⟩=>bI (hb pins s1 σ H1 _ I1 q1) λ u s2 ⟨y,H2,I2,r2,q2⟩=>
  bI (ho pins s2 σ H2 x y v u _ I2 r1 r2 q2) λ c s3 ⟨z,H3,I3,r3,k,e,q3⟩=>?_) hm
 subst e
 cases r3
 exact wpAny_truthy_bool ⟨H3,I3,q3⟩
def Jp (K:PySem.W.Frag)(x:V)(H:Hp)(k:Bool):Prop:=
 match x with
 | .aC=>k=false
 | .bl b=>k=b
 | .int i=>k=(i != 0)
 | .str y=>y.length<=sizeLine/\k=((y.length:Int) != 0)
 | .wb y=>y.size<=sizeLine/\k=((y.size:Int) != 0)
 | .ref p=>(∃ xs,fB K H p xs/\k=!xs.isEmpty)∨(∃ xs,hW K H p xs/\k=!xs.isEmpty)∨∃ kvs,H p=some (.dK kvs)/\k=!kvs.isEmpty
 | _=>False
theorem vU {κ:Type}{kvs:List (κ × V)}{vs:List (κ × Value)}(r:KV kvs vs):(!vs.isEmpty)=!kvs.isEmpty:=by
 cases r<;>rfl
theorem pS {xs:List V}{its:List Value}(r:Vals xs its):(!its.toArray.isEmpty)=!xs.isEmpty:=by
 cases r<;>simp
theorem j_:(sizeLine:Nat) < 2 ^ 63:=by rw[sizeLine_eq];decide
theorem Gs:Qd X (λ x H Q=>∃ k,Jp X.K x H k/\Q k H):=by
 intro pins s σ H x v Q I rx h
 obtain⟨k,e,q⟩:=h
 have hl:=j_
 have hs:sizeLine=16777216:=sizeLine_eq
 cases x with
 | aC=>
  cases rx
  have e':k=false:=e
  subst e'
  exact truthy_none ⟨H,I,q⟩
 | bl b=>
  cases rx
  have e':k=b:=e
  subst e'
  exact wpAny_truthy_bool ⟨H,I,q⟩
 | int i=>
  obtain⟨t,rfl⟩:=rx
  have e':k=(i != 0):=e
  subst e'
  exact PySem.P.truthy_int ⟨H,I,q⟩
 | str y=>
  obtain⟨t,rfl⟩:=rx
  obtain⟨hy,e'⟩:y.length<=sizeLine/\k=((y.length:Int) != 0):=e
  subst e'
  exact PySem.P.truthy_str (by omega) ⟨H,I.tok _,q⟩
 | wb y=>
  obtain⟨t,rfl⟩:=rx
  obtain⟨hy,e'⟩:y.size<=sizeLine/\k=((y.size:Int) != 0):=e
  subst e'
  exact PySem.W.truthy_bytes (by omega) ⟨H,I.tok _,q⟩
 | ref p=>
  cases rx
  have e':(∃ xs,fB X.K H p xs/\k=!xs.isEmpty)∨(∃ xs,hW X.K H p xs/\k=!xs.isEmpty)∨∃ kvs,H p=some (.dK kvs)/\k=!kvs.isEmpty:=e
  rcases e' with⟨xs,hx,e'⟩|⟨xs,hx,e'⟩|⟨kvs,hx,e'⟩
  ·subst e'
   obtain⟨its,r,pl,hz⟩:=I.list hx
   have hlen:=r.length
   exact wpAny_truthy_list pl.isList (by simp only[List.size_toArray];omega) ⟨H,I.tok _,by rw[pS r];exact q⟩
  ·subst e'
   obtain⟨its,r,pl,hz⟩:=I.tuple hx
   have hlen:=r.length
   exact truthy_tuple pl (by simp only[List.size_toArray];omega) ⟨H,I.tok _,by rw[pS r];exact q⟩
  ·subst e'
   obtain⟨hz,hS,vs,r,m⟩:kvs.length<=sizeLine/\(p == sysModules)=false/\∃ vs,KV kvs vs/\s.heap.DictOf (bx X.prog X.w) p vs:=I.aX p _ hx
   have hlen:kvs.length=vs.length:=Paired.length r
   exact wpAny_truthy_dict hS m (by omega) ⟨H,I.tok _,by rw[vU r];exact q⟩
 | _=>exact(show False from e).elim
theorem zN (ha:PE X a ta)(he:∀ whole,isTrue a X.env whole=(do let v <-whole;standAt a.pos;holding [v] (truthy v))) :
  PT X a (λ σ H Q=>ta σ H λ x H'=>∃ k,Jp X.K x H' k/\Q k H'):=by
 intro pins s σ H Q I h
 exact isTrue_plain (bI (ha pins s σ H _ I h) λ v s1 ⟨x,H1,I1,r1,q1⟩=>Gs pins s1 σ H1 x v Q I1 r1 q1) (he _)
theorem vF:iC X (binaryOp .Add) (λ x y H Q=>∃ i j,x=.str i/\y=.str j/\i.length+j.length<=sizeLine/\Q (.str (i++j)) H):=by
 intro pins s σ H x y v u Q I rx ry h
 obtain⟨i,j,rfl,rfl,hz,q⟩:=h
 obtain⟨t,rfl⟩:=rx
 obtain⟨t',rfl⟩:=ry
 exact add_str (λ t' tk=>⟨.str (i++j),H,I.tok _,⟨_,rfl⟩,q⟩) hz
theorem vals1 {x:V}{us:List Value}(r:Vals [x] us):∃ u,us=[u]/\RelV x u:=by
 cases r with
 | cons r1 r2=>cases r2;exact⟨_,rfl,r1⟩
theorem vals2 {x y:V}{us:List Value}(r:Vals [x,y] us):∃ u w',us=[u,w']/\RelV x u/\RelV y w':=by
 cases r with
 | cons r1 r2=>
  cases r2 with
  | cons r3 r4=>cases r4;exact⟨_,_,rfl,r1,r3⟩
theorem B5:dP X (.builtin "abs") (λ xs H Q=>∃ i,xs=[.int i]/\Q (.int (if i < 0 then -i else i)) H):=by
 intro pins s σ H xs us Q I r h
 obtain⟨i,rfl,q⟩:=h
 obtain⟨u,rfl,t,rfl⟩:=vals1 r
 exact call_abs_int λ u tk=>⟨.int (if i < 0 then -i else i),H,I.tok _,⟨_,rfl⟩,q⟩
end
end L2
namespace L2
open PySem PySem.Spec PyProof.Rows
structure wm (h:Heap)(x dx C:Addr)(mA:Str->Option Value):Prop where
 obj:h.get? x=some (PySem.W.instObj C dx)
 ns:h.Ns1 dx mA
 ne:dx≠x
theorem yj {h:Heap}{dx:Addr}{mA:Str->Option Value}(n:h.Ns1 dx mA):∃ od,h.get? dx=some od/\∀ name,PySem.W.lookIn name od=some (mA name):=by
 obtain⟨o,es,ep,ho,hd,hk,_,hm⟩:=n
 refine⟨o,ho,λ name=>?_⟩
 have e:=hm name
 unfold nsFind findBy at e
 rw[<-Array.find?_toList]at e
 unfold PySem.W.lookIn
 rw[hd]
 dsimp only
 split
 ·rename_i y q
  rw[q]at e
  exact congrArg some e
 ·rename_i q
  rw[q]at e
  have a:es.toList.any (·.refKey)=false:=by
   rw[List.any_eq_false]
   intro y hy
   obtain⟨z,t,Pm⟩:=hk y (Array.mem_toList_iff.mp hy)
   simp[DictEntry.refKey,Pm]
  have a':¬ es.toList.any (·.refKey)=true:=by rw[a];exact Bool.false_ne_true
  rw[if_neg a']
  exact congrArg some e
theorem wm.look {h:Heap}{x dx C:Addr}{mA:Str->Option Value}(I:wm h x dx C mA):∃ od,PySem.W.InstAt h x (PySem.W.instObj C dx) C (some od)/\∀ name,PySem.W.lookIn name od=some (mA name):=
 let ⟨od,ho,hl⟩:=yj I.ns
 ⟨od,⟨I.obj,rfl,rfl,ho⟩,hl⟩
section
variable {prog:Program}{w:World}{A:Around}{E:Value->Shared->Prop}{s:Shared}{K:PySem.W.Frag}{x dx C f:Addr}{mA:Str->Option Value}{name:Str}{v:Value}
theorem get_map {expr:Bool}{Q:Value->Shared->Prop}(X:K.In s.heap)(I:wm s.heap x dx C mA)(hg:PySem.W.plainGet K C name=true)(hh:PySem.W.hasDictIn K C=true)
  (ha:PySem.W.findIn K (.ref C) name=some none) (hv:mA name=some v) (Sb:PySem.W.handedIn v=true) (h:Q v { s with toks:=s.toks+1 }) :
  wpAny (model prog w) A (getAttr (.ref x) name expr) Q E s:=by
 obtain⟨od,J,hl⟩:=I.look
 exact PySem.W.get_value X J (PySem.W.plainGet_of hg).1 (PySem.W.findObj_own hh ha rfl (by rw[hl,hv])) Sb h
theorem Bw {pl:Sem Bool}{Q:Value × List Value->Shared->Prop}(X:K.In s.heap)(I:wm s.heap x dx C mA)(hg:PySem.W.plainGet K C name=true)
  (hf:PySem.W.findIn K (.ref C) name=some (some (.ref f))) (ht:PySem.W.isFn K (.ref f)=true) (hv:mA name=none) (h:Q (.ref f,[.ref x]) s) :
  wpAny (model prog w) A (getMethod (.ref x) name pl) Q E s:=by
 obtain⟨od,J,hl⟩:=I.look
 exact PySem.W.method_fn X J (PySem.W.plainGet_of hg).1 (PySem.W.plainGet_of hg).2 hf (beq_iff_eq.mp ht) (by show(PySem.W.lookIn name od).map (·.isSome)=some false;rw[hl,hv];rfl) h
theorem C3 {ns:List Str}{Q:Unit->Shared->Prop}(X:K.In s.heap)(I:wm s.heap x dx C mA)
  (hs:PySem.W.findIn K (.ref C) "__setattr__"=some (some (.builtin "object.__setattr__"))) (hp:PySem.W.plainOver K C=true) (ht:PySem.W.takerIn K C name=some none) (hh:PySem.W.hasDictIn K C=true)
  (hw:PySem.Within mA ns) (hsz:ns.length<=sizeLine)
  (h:∀ h',wm h' x dx C (λ y=>if y=name then some v else mA y)->Heap.SameBut dx s.heap h'->Q () { s with heap:=h',toks:=s.toks+2 }) :
  wpAny (model prog w) A (setAttr (.ref x) name v) Q E s:=by
 obtain⟨od,J,hl⟩:=I.look
 refine PySem.W.set_plain X J hs (PySem.W.osa_open (s:={ s with toks:=s.toks+1 }) (r:=none) X J hp ht λ b=>?_)
 obtain⟨cd,hc,IV⟩:=PySem.W.any_some hh
 have hx:s.heap.get? x=some ⟨.ref C,some dx,.plain,#[]⟩:=I.obj
 refine wpAny_bind (wpAny_pure (wpAny_bind (wpAny_bind (wpAny_loadPart hx (wpAny_bind (PySem.W.Looks.here (s:={ s with toks:=s.toks+1 }) (PySem.W.looks_clsIn X hc) ?_))))))
 rw[IV]
 refine wpAny_pure (a:=some dx) (wpAny_bind (wpAny_pure (wpAny_bind ?_)))
 refine wpAny_nsSet1 (s:={ s with toks:=s.toks+1 }) I.ns λ h' Cm JA=>?_
 obtain⟨oD,esD,epD,hoD,hdD,hcD⟩:=Cm.count (PySem.Within.cons name v hw)
 refine wpAny_bind (wpAny_lookBehind hoD (by rw[hdD];exact pastItsLine_dict (Nat.le_trans hcD (by rw[List.length_cons];omega))) ?_)
 exact wpAny_pure (h _ ⟨(JA.2 _ (Ne.symm I.ne)).trans I.obj,Cm,I.ne⟩ JA)
theorem A8 {R:Result->Shared->Prop}{vs:List Value}{kw:List (Str × Value)}(X:K.In s.heap)(hm:PySem.W.makesIn K C=true)
  (hi:PySem.W.findIn K (.ref C) "__init__"=some (some (.ref f))) (hf:PySem.W.typeIn K (.ref f)=some (.type "function"))
  (h:codeAny (model prog w) (A.under (.builtin "type.__call__" ⟨.ref C :: vs,kw⟩)) (.call (.ref f) ⟨.ref (s.heap.objs.size+1) :: vs,kw⟩) (PySem.W.InitBack (s.heap.objs.size+1) R)
   { s with heap:=(s.heap.push PySem.W.emptyDict).push (PySem.W.instObj C s.heap.objs.size) }) :
  codeAny (model prog w) A (.call (.ref C) ⟨vs,kw⟩) R s:=by
 obtain⟨hh,g,d,t,os⟩:=s
 exact PySem.W.make_core (PySem.W.makes_of X hm) (PySem.W.looks_findIn X hi) (λ self=>PySem.W.bind_fn X self hf) (.inl rfl) h
end
def jf (f:Str)(v:V):List (Str × V)->List (Str × V)
 | []=>[(f,v)]
 | (g,x) :: r=>if g=f then (g,v) :: r else (g,x) :: jf f v r
theorem nN (f g:Str)(v:V):∀ fs:List (Str × V),(jf f v fs).lookup g=if g=f then some v else fs.lookup g
 | []=>by
  show List.lookup g [(f,v)]=_
  by_cases h:g=f
  ·have hb:(g == f)=true:=beq_iff_eq.mpr h
   simp only[List.lookup,hb,if_pos h]
  ·have hb:(g == f)=false:=beq_eq_false_iff_ne.mpr h
   simp only[List.lookup,hb,if_neg h]
 | (k,x) :: r=>by
  have ih:=nN f g v r
  rw[show jf f v ((k,x) :: r)=(if k=f then (k,v) :: r else (k,x) :: jf f v r) from rfl]
  by_cases hk:k=f
  ·rw[if_pos hk]
   by_cases h:g=k
   ·have hb:(g == k)=true:=beq_iff_eq.mpr h
    simp only[List.lookup,hb,if_pos (h.trans hk)]
   ·have hb:(g == k)=false:=beq_eq_false_iff_ne.mpr h
    simp only[List.lookup,hb,if_neg (λ e:g=f=>h (e.trans hk.symm))]
  ·rw[if_neg hk]
   by_cases h:g=k
   ·have hb:(g == k)=true:=beq_iff_eq.mpr h
    simp only[List.lookup,hb,if_neg (λ e:g=f=>hk (h.symm.trans e))]
   ·have hb:(g == k)=false:=beq_eq_false_iff_ne.mpr h
    simp only[List.lookup,hb]
    exact ih
theorem nt (f:Str)(v:V):∀ fs:List (Str × V),f∈(jf f v fs).map (·.1)/\∀ g,g∈fs.map (·.1)->g∈(jf f v fs).map (·.1)
 | []=>⟨by simp[jf],λ g h=>by simp at h⟩
 | (k,x) :: r=>by
  obtain⟨i1,i2⟩:=nt f v r
  rw[show jf f v ((k,x) :: r)=(if k=f then (k,v) :: r else (k,x) :: jf f v r) from rfl]
  by_cases hk:k=f
  ·rw[if_pos hk]
   subst hk
   exact⟨by simp,λ g h=>by simpa using h⟩
  ·rw[if_neg hk]
   refine⟨?_,λ g h=>?_⟩
   ·rw[List.map_cons]
    exact List.mem_cons_of_mem _ i1
   ·rw[List.map_cons]at h ⊢
    rcases List.mem_cons.mp h with e|e
    ·exact List.mem_cons.mpr (.inl e)
    ·exact List.mem_cons_of_mem _ (i2 g e)
theorem nO (f:Str)(v:V):∀ fs:List (Str × V),(jf f v fs).length<=fs.length+1
 | []=>by simp[jf]
 | (k,x) :: r=>by
  have ih:=nO f v r
  rw[show jf f v ((k,x) :: r)=(if k=f then (k,v) :: r else (k,x) :: jf f v r) from rfl]
  by_cases hk:k=f
  ·rw[if_pos hk,List.length_cons,List.length_cons];omega
  ·rw[if_neg hk,List.length_cons,List.length_cons];omega
theorem jH.some_of {v:V}{o:Option Value}(r:jH (some v) o):∃ u,o=some u/\RelV v u:=by
 cases o with
 | none=>exact(show False from r).elim
 | some u=>exact⟨u,rfl,r⟩
theorem jH.none_of {o:Option Value}(r:jH none o):o=none:=by
 cases o with
 | none=>rfl
 | some u=>exact(show False from r).elim
theorem yx {v:V}{u:Value}(r:RelV v u):PySem.W.handedIn u=true:=by
 cases v with
 | aC=>cases (show u=Value.none from r);rfl
 | bl b=>cases (show u=Value.bool b from r);rfl
 | int i=>obtain⟨t,e⟩:=(show ∃ t,u=Value.int i t from r);cases e;rfl
 | str x=>obtain⟨t,e⟩:=(show ∃ t,u=Value.str x t from r);cases e;rfl
 | wb b=>obtain⟨t,e⟩:=(show ∃ t,u=Value.bytes b t from r);cases e;rfl
 | F0 b=>obtain⟨t,e⟩:=(show ∃ t,u=Value.float b t from r);cases e;rfl
 | ref a=>cases (show u=Value.ref a from r);rfl
 | ty n=>cases (show u=Value.type n from r);rfl
section
variable {P:Program}{w:World}{H H':Hp}{h h':Heap}{a C dx:Addr}{fs L8:List (Str × V)}
theorem oG (aX:jI P w H h)(e:H a=some (.ins C dx fs)):∃ mA,wm h a dx C mA/\(∀ f,jH (fs.lookup f) (mA f))/\PySem.Within mA (fs.map (·.1))/\fs.length<=1000/\H dx=some (.own a):=by
 obtain⟨d,z,ne,ob,mA,n,r,q⟩:=(show bP P w H h a (.ins C dx fs) from aX a _ e)
 exact⟨mA,⟨ob,n,ne⟩,r,q,z,d⟩
end
structure vd (K:PySem.W.Frag)(C:Addr):Prop where
 pg:PySem.W.plainGet K C Str.empty=true
 hd:PySem.W.hasDictIn K C=true
 po:PySem.W.plainOver K C=true
 sa:PySem.W.findIn K (.ref C) "__setattr__"=some (some (.builtin "object.__setattr__"))
theorem vd.get {K:PySem.W.Frag}{C:Addr}(c:vd K C)(f:Str):PySem.W.plainGet K C f=true:=c.pg
def iR (K:PySem.W.Frag)(C:Addr)(f:Str):Prop:=PySem.W.findIn K (.ref C) f=some none
theorem iR.JU {K:PySem.W.Frag}{C:Addr}{f:Str}(n:iR K C f):PySem.W.takerIn K C f=some none:=by
 unfold PySem.W.takerIn
 rw[show PySem.W.findIn K (.ref C) f=some none from n]
 rfl
structure Meth (K:PySem.W.Frag)(C:Addr)(m:Str)(f:Addr):Prop where
 at_:PySem.W.findIn K (.ref C) m=some (some (.ref f))
 fn:PySem.W.isFn K (.ref f)=true
 kp:PySem.W.keepIn K (.ref f)=true
section
variable {X:Cx}{pins:List (Addr × Obj)}{σ:St}{H:Hp}{s:Shared}{a C dx:Addr}{fs:List (Str × V)}{f:Str}{v:V}{A:Around}{E:Value->Shared->Prop}
theorem v5 {b:Bool}{Q:Value->Shared->Prop}(I:Inv X pins σ H s)(e:H a=some (.ins C dx fs)) (c:vd X.K C)(n:iR X.K C f)(l:fs.lookup f=some v)
  (h:∀ u s',Inv X pins σ H s'->RelV v u->Q u s'):wpAny (model X.prog X.w) A (getAttr (.ref a) f b) Q E s:=by
 obtain⟨mA,O,r,_,_,_⟩:=oG I.aX e
 obtain⟨u,hu,ru⟩:=jH.some_of (v:=v) (o:=mA f) (by rw[<-l];exact r f)
 exact get_map I.jl O (c.get f) c.hd n hu (yx ru) (h u _ (I.tok _) ru)
theorem lN {m:Str}{g:Addr}{pl:Sem Bool}{Q:Value × List Value->Shared->Prop}(I:Inv X pins σ H s)(e:H a=some (.ins C dx fs)) (c:vd X.K C)(k:Meth X.K C m g)(l:fs.lookup m=none)
  (h:Q (.ref g,[.ref a]) s):wpAny (model X.prog X.w) A (getMethod (.ref a) m pl) Q E s:=by
 obtain⟨mA,O,r,_,_,_⟩:=oG I.aX e
 have hn:mA m=none:=jH.none_of (by rw[<-l];exact r m)
 exact Bw I.jl O (c.get m) k.at_ k.fn hn h
theorem vw {y:V}{u:Value}{Q:Unit->Shared->Prop}(I:Inv X pins σ H s)(e:H a=some (.ins C dx fs)) (c:vd X.K C)(n:iR X.K C f)(hl:fs.length < 1000)(ry:RelV y u)
  (h:∀ s',Inv X pins σ (upd H a (.ins C dx (jf f y fs))) s'->Q () s'):wpAny (model X.prog X.w) A (setAttr (.ref a) f u) Q E s:=by
 obtain⟨mA,O,r,wi,_,ho⟩:=oG I.aX e
 have hz:(fs.map (·.1)).length<=sizeLine:=by rw[List.length_map,sizeLine_eq];omega
 refine C3 I.jl O c.sa c.po n.JU c.hd wi hz λ h' O' sb=>h _ ?_
 have hd:∃ o,h'.get? dx=some o:=let ⟨o,_,_,e',_⟩:=O'.ns;⟨o,e'⟩
 refine I.write (x:=a) (e:=dx) (by rw[e];exact True.intro) (.inr ho) (λ b q hb z=>(sb.2 b hb).trans z) hd ?_
 refine⟨by rw[ah O.ne];exact ho,?_,O.ne,O'.obj,_,O'.ns,λ g=>?_,λ g hg=>?_⟩
 ·have:=nO f y fs;omega
 ·show jH ((jf f y fs).lookup g) (if g=f then some u else mA g)
  rw[nN]
  by_cases q:g=f
  ·rw[if_pos q,if_pos q];exact ry
  ·rw[if_neg q,if_neg q];exact r g
 ·by_cases q:g=f
  ·rw[q];exact(nt f y fs).1
  ·refine(nt f y fs).2 g (wi g λ z=>hg ?_)
   show(if g=f then some u else mA g)=none
   rw[if_neg q];exact z
theorem Inv.made (I:Inv X pins σ H s):Inv X pins σ (upd (upd H s.heap.objs.size (.own (s.heap.objs.size+1))) (s.heap.objs.size+1) (.ins C s.heap.objs.size []))
  { s with heap:=(s.heap.push PySem.W.emptyDict).push (PySem.W.instObj C s.heap.objs.size) }:=by
 have e1:(s.heap.push PySem.W.emptyDict).get? s.heap.objs.size=some PySem.W.emptyDict:=Heap.get?_push_size s.heap rfl
 have e2:((s.heap.push PySem.W.emptyDict).push (PySem.W.instObj C s.heap.objs.size)).get? (s.heap.objs.size+1)=some (PySem.W.instObj C s.heap.objs.size):=by
  have:=Heap.get?_push_size (s.heap.push PySem.W.emptyDict) (o:=PySem.W.instObj C s.heap.objs.size) rfl
  rwa [Heap.size_push]at this
 have e3:(s.heap.push PySem.W.emptyDict).Ns s.heap.objs.size (λ _=>none):=⟨PySem.W.emptyDict,#[],_,e1,rfl,(λ e he=>absurd he (by simp)),λ _=>rfl⟩
 have I1:=I.laid (a:=s.heap.objs.size) (o:=.own (s.heap.objs.size+1)) (h':=s.heap.push PySem.W.emptyDict) (t':=s.toks) (λ b u q=>Heap.get?_push_of_some _ q) (Nat.le_refl _) ⟨_,e1⟩
 refine I1.laid (a:=s.heap.objs.size+1) (o:=.ins C s.heap.objs.size []) (t':=s.toks) (λ b u q=>Heap.get?_push_of_some _ q) (Nat.le_of_eq (Heap.size_push _ _)) ?_
 have ne:s.heap.objs.size≠s.heap.objs.size+1:=Nat.ne_of_lt (Nat.lt_succ_self _)
 refine⟨by rw[ah ne,aw],Nat.zero_le _,ne,e2,λ _=>none,(Heap.Ns1.of_empty e3).at λ o q=>Heap.get?_push_of_some _ q,λ _=>True.intro,λ y hy=>absurd rfl hy⟩
theorem Fj {prog:Program}{w:World}{env:Env}{e:Expr}{f:Str}{pos:Pos}{s:Shared}{Q:Value->Shared->Prop}(hb:attributeBase e f env (eval e env)=eval e env)
  (h:wpAny (model prog w) A (eval e env) (λ o s₁=>wpAny (model prog w) A (getAttr o f true) Q E s₁) E s):wpAny (model prog w) A (eval (.Attribute e f pos) env) Q E s:=
 Attribute_any_ h (by rw[arm_eval_Attribute,hb])
end
def N7 (K:PySem.W.Frag)(ta:TE)(f:Str):TE:=λ σ H Q=>ta σ H λ x H1=>∃ a C dx fs v,x=.ref a/\H1 a=some (.ins C dx fs)/\vd K C/\iR K C f/\fs.lookup f=some v/\Q v H1
def Of (K:PySem.W.Frag)(ta tv:TE)(f:Str):TS:=λ D σ H=>tv σ H λ y H1=>ta σ H1 λ x H2=>∃ a C dx fs,x=.ref a/\H2 a=some (.ins C dx fs)/\vd K C/\iR K C f/\fs.length < 1000/\
 D.nx σ (upd H2 a (.ins C dx (jf f y fs)))
section
variable {X:Cx}{o e value:Expr}{f:Str}{pos pos' mV:Pos}{ta tv:TE}
theorem Hj (he:PE X e ta)(hb:attributeBase e f X.env (eval e X.env)=eval e X.env):PE X (.Attribute e f pos) (N7 X.K ta f):=by
 intro pins s σ H Q I h
 refine Fj hb (bI (he pins s σ H _ I h) λ u s1 ⟨x,H1,I1,rx,a,C,dx,fs,v,ex,ea,c,n,l,q⟩=>?_)
 subst ex
 obtain rfl:u=Value.ref a:=rx
 exact v5 I1 ea c n l λ u' s2 I2 ru=>⟨v,H1,I2,ru,q⟩
theorem G6 (ha:PE X o ta)(hv:PE X value tv)(hs:swapsWith value (some (.Attribute o f pos')) pos.line X.env=pure false):PS X (.Assign [.Attribute o f pos'] value pos) (Of X.K ta tv f):=by
 intro pins s σ H D I h
 refine plainObj_wpAny_Assign_Attribute (bI (hv pins s σ H _ I h) λ u s1 ⟨y,H1,I1,ry,q⟩=>bI (ha pins s1 σ H1 _ I1 q) λ ov s2 ⟨x,H2,I2,rx,a,C,dx,fs,ex,ea,c,n,l,q2⟩=>?_) hs
 subst ex
 obtain rfl:ov=Value.ref a:=rx
 exact vw I2 ea c n l ry λ s3 I3=>⟨σ,_,I3,q2⟩
theorem FJ {pl:Sem Bool}{m:Str}{apos:Pos}{args:List Expr}{pins:List (Addr × Obj)}{s:Shared}{σ:St}{H:Hp}{Q:Value->Shared->Prop}{te:TE}(he:PE X e te)(I:Inv X pins σ H s)
  (h:te σ H λ x H1=>∃ a C dx fs g,x=.ref a/\H1 a=some (.ins C dx fs)/\vd X.K C/\Meth X.K C m g/\fs.lookup m=none/\
   ∀ s1,Inv X pins σ H1 s1->wpAny (model X.prog X.w) X.A (callWith pos (.ref g) [.ref a] (backTo pos (starEach args X.env)) (backToKw pos (keywordEach [] X.env))) Q X.xe s1)
  (ht:eval (.Call (.Attribute e m apos) args [] pos) X.env=(do
   let ov <-eval e X.env
   standAt apos.atName
   let (f,first) <-holding [ov] (getMethod ov m pl)
   callWith pos f first (backTo pos (starEach args X.env)) (backToKw pos (keywordEach [] X.env)))) :
  wpAny (model X.prog X.w) X.A (eval (.Call (.Attribute e m apos) args [] pos) X.env) Q X.xe s:=by
 refine PySem.W.methodCall_KW (pl:=pl) (bI (he pins s σ H _ I h) λ u s1 ⟨x,H1,I1,rx,a,C,dx,fs,g,ex,ea,c,k,l,q⟩=>?_) ht
 subst ex
 obtain rfl:u=Value.ref a:=rx
 exact lN I1 ea c k l (q s1 I1)
end
section
variable {X:Cx}{pins:List (Addr × Obj)}{σ:St}{H:Hp}{s:Shared}{A:Around}{E:Value->Shared->Prop}{Q:Value->Shared->Prop}{c:Value}{b:Bool}
inductive ou (K:PySem.W.Frag) (H:Hp):V->Value->Prop where
 | aC:ou K H .aC (.type "NoneType")
 | bl (x:Bool):ou K H (.bl x) (.type "bool")
 | int (i:Int):ou K H (.int i) (.type "int")
 | str (x:Str):ou K H (.str x) (.type "str")
 | F0 (x:UInt64):ou K H (.F0 x) (.type "float")
 | lst {a:Addr}{xs:List V}(e:H a=some (.lst xs)):ou K H (.ref a) (.type "list")
 | ll {a:Addr}{o:Obj}{xs:List V}(e:H a=some (.ll o (.lst xs))):ou K H (.ref a) (.type "list")
 | tup {a:Addr}{xs:List V}(e:H a=some (.tup xs)):ou K H (.ref a) (.type "tuple")
 | dK {a:Addr}{kvs:List (Key × V)}(e:H a=some (.dK kvs)):ou K H (.ref a) (.type "dict")
 | dT {a:Addr}{kvs:List (List Key × V)}(e:H a=some (.dT kvs)):ou K H (.ref a) (.type "dict")
 | ins {a C dx:Addr}{fs:List (Str × V)}(e:H a=some (.ins C dx fs)) (cl:vd K C) (ha:PySem.W.findIn K (.ref C) "__class__"=some (some (.builtin "object.__class__")))
   (hn:PySem.W.specialIn K (.builtin "object.__class__") "__get__"=some (some (.builtin "getset_descriptor.__get__"))) (QN:PySem.W.takesIn K (.builtin "object.__class__")=some true)
   (hm:PySem.W.mroIn K C (.type "object")=some true):ou K H (.ref a) (.ref C)
theorem kO {x:V}{u t:Value}(I:Inv X pins σ H s)(rx:RelV x u)(ty:ou X.K H x t)(e:PySem.W.kitOne X.K t c=some b)(h:∀ tk,Q (.bool b) { s with toks:=tk }) :
  wpAny (model X.prog X.w) A (call (.builtin "isinstance") [u,c]) Q E s:=by
 cases ty with
 | aC=>cases (show u=Value.none from rx);exact PySem.W.kia_one PySem.W.kitx_none I.jl True.intro e (λ z=>nomatch z) h
 | bl y=>cases (show u=Value.bool y from rx);exact PySem.W.kia_one PySem.W.kitx_bool I.jl True.intro e (λ z=>nomatch z) h
 | int i=>obtain⟨t,q⟩:=(show ∃ t,u=Value.int i t from rx);cases q;exact PySem.W.kia_one PySem.W.kitx_int I.jl True.intro e (λ z=>nomatch z) h
 | str y=>obtain⟨t,q⟩:=(show ∃ t,u=Value.str y t from rx);cases q;exact PySem.W.kia_one PySem.W.kitx_str I.jl True.intro e (λ z=>nomatch z) h
 | F0 y=>obtain⟨t,q⟩:=(show ∃ t,u=Value.float y t from rx);cases q;exact PySem.W.kia_one PySem.W.kitx_float I.jl True.intro e (λ z=>nomatch z) h
 | @lst a xs ea=>
  cases (show u=Value.ref a from rx)
  obtain⟨_,_,n,_,h1⟩:=(show bP X.prog X.w H s.heap a (.lst xs) from I.aX a _ ea)
  exact PySem.W.kia_one PySem.W.kitx_list I.jl ⟨_,h1,rfl⟩ e (λ z=>nomatch z) h
 | @ll a ob xs ea=>
  cases (show u=Value.ref a from rx)
  obtain⟨_,_,_,n,_,h1⟩:=(show bP X.prog X.w H s.heap a (.ll ob (.lst xs)) from I.aX a _ ea)
  exact PySem.W.kia_one PySem.W.kitx_list I.jl ⟨_,h1,rfl⟩ e (λ z=>nomatch z) h
 | @tup a xs ea=>
  cases (show u=Value.ref a from rx)
  obtain⟨_,_,_,p⟩:=(show bP X.prog X.w H s.heap a (.tup xs) from I.aX a _ ea)
  obtain⟨o,h1,h2,_⟩:=p
  exact PySem.W.kia_one PySem.W.kitx_tuple I.jl ⟨o,h1,h2⟩ e (λ z=>nomatch z) h
 | @dK a kvs ea=>
  cases (show u=Value.ref a from rx)
  obtain⟨_,_,vs,_,p⟩:=(show bP X.prog X.w H s.heap a (.dK kvs) from I.aX a _ ea)
  obtain⟨o,es,ep,h1,h2,_⟩:=p
  exact PySem.W.kia_one PySem.W.kitx_dict I.jl ⟨o,h1,h2.1⟩ e (λ z=>nomatch z) h
 | @dT a kvs ea=>
  cases (show u=Value.ref a from rx)
  obtain⟨_,_,xs,_,o,es,ep,h1,h2,_⟩:=(show bP X.prog X.w H s.heap a (.dT kvs) from I.aX a _ ea)
  exact PySem.W.kia_one PySem.W.kitx_dict I.jl ⟨o,h1,h2.1⟩ e (λ z=>nomatch z) h
 | @ins a C dx fs ea cl ha hn QN hm=>
  cases (show u=Value.ref a from rx)
  obtain⟨mA,O,_⟩:=oG I.aX ea
  obtain⟨od,J,_⟩:=O.look
  exact PySem.W.kia_one (PySem.W.kitx_own (cl.get _) cl.hd ha hn QN hm) I.jl J e (λ z=>nomatch z) h
end
end L2
namespace L2
open PySem PySem.Spec PyProof.Rows
structure df (k:Nat)(A:Around):Prop where
 hd:A.handled=none
 dp:A.depth+3 * k+5 < recursionLimit
 un:A.units+16 * k+200 < cLine
theorem df.mono {j k:Nat}{A:Around}(r:df k A)(h:j<=k):df j A:=⟨r.hd,by have:=r.dp;omega,by have:=r.un;omega⟩
theorem df.deeper {k:Nat}{A:Around}(r:df (k+1) A) (env:Env):df k (A.deeper env):=
 ⟨r.hd,by have:=r.dp;show A.depth+1+3 * k+5 < _;omega,by have:=r.un;show A.units+3+16 * k+200 < _;omega⟩
theorem vQ {A:Around}{C:Addr}{us:List Value}{kw:List (Str × Value)}:(A.under (.builtin "type.__call__" ⟨.ref C :: us,kw⟩)).depth=A.depth+1:=by
 first|rfl|simp[Around.under,Code.weight,Code.isCreation,Code.isGuard,Code.isCaller,Code.frames,Code.isFrame,guardIds]
theorem vP {A:Around}{C:Addr}{us:List Value}{kw:List (Str × Value)}:(A.under (.builtin "type.__call__" ⟨.ref C :: us,kw⟩)).units=A.units+1:=by
 first|rfl|simp[Around.under,Code.cUnits,Code.frames,Code.isFrame]
theorem df.make {k:Nat}{A:Around}(r:df (k+1) A) (C:Addr)(us:List Value)(kw:List (Str × Value)):df k (A.under (.builtin "type.__call__" ⟨.ref C :: us,kw⟩)):=
 ⟨r.hd,by have:=r.dp;rw[vQ];omega,by have:=r.un;rw[vP];omega⟩
theorem df.depth {k:Nat}{A:Around}(r:df k A):A.depth < recursionLimit:=by have:=r.dp;omega
theorem df.units {k:Nat}{A:Around}(r:df k A):A.units+64 < cLine:=by have:=r.un;omega
def ub:TA:=λ _ H Q=>Q [] H
def qK (ta:TE)(tr:TA):TA:=λ σ H Q=>ta σ H λ x H1=>tr σ H1 λ xs H2=>Q (x :: xs) H2
section
variable {X:Cx}{e:Expr}{es:List Expr}{te:TE}{t:TA}{pos:Pos}
theorem fF:PA X [] ub:=λ _ _ _ _ H Q I h=>Calls.spliced_nil ⟨[],H,I,.nil,h⟩
theorem cb (ha:PE X e te)(hr:PA X es t)(hs:starEach (e :: es) X.env=(false,eval e X.env) :: starEach es X.env:=by rfl):PA X (e :: es) (qK te t):=by
 intro pos pins s σ H Q I h
 rw[hs]
 show wpAny _ _ (spliced ((false,eval e X.env) :: backTo pos (starEach es X.env))) _ _ s
 refine Calls.spliced_cons (bI (ha pins s σ H _ I h) λ u s1 ⟨x,H1,I1,r1,q1⟩=>?_)
 exact bI (hr pos pins s1 σ H1 _ I1 q1) λ us s2 ⟨xs,H2,I2,r2,q2⟩=>⟨x :: xs,H2,I2,.cons r1 r2,q2⟩
def NV (t:TA):TE:=λ σ H Q=>t σ H λ xs H1=>xs.length<=sizeLine/\∀ p,H1 p=none->Q (.ref p) (upd H1 p (.tup xs))
def N3 (t:TA):TE:=λ σ H Q=>t σ H λ xs H1=>xs.length<=sizeLine/\∀ p,H1 p=none->Q (.ref p) (upd H1 p (.lst xs))
theorem Aa {x1} (h:PA X es t):PE X (.Tuple es x1 pos) (NV t):=by
 intro pins s σ H Q I hq
 refine wpAny_Tuple_spliced (bI (h pos pins s σ H _ I hq) λ us s1 ⟨xs,H1,I1,r,z,q⟩=>⟨by rw[<-r.length];exact z,?_⟩)
 have hf:H1 s1.heap.objs.size=none:=I1.aX.fresh (Nat.le_refl _)
 refine⟨.ref s1.heap.objs.size,upd H1 s1.heap.objs.size (.tup xs),I1.laid (t':=s1.toks) (λ b u e=>Heap.get?_push_of_some _ e) (Nat.le_refl _) ?_,rfl,q _ hf⟩
 exact⟨z,us,r,⟨_,Heap.get?_push_size _ rfl,rfl,_,rfl⟩⟩
theorem Hg (h:PA X es t):PE X (.List es pos) (N3 t):=by
 intro pins s σ H Q I hq
 refine wpAny_List_spliced (bI (h pos pins s σ H _ I hq) λ us s1 ⟨xs,H1,I1,r,z,q⟩=>⟨by rw[<-r.length];exact z,?_⟩)
 have hf:H1 s1.heap.objs.size=none:=I1.aX.fresh (Nat.le_refl _)
 refine⟨.ref s1.heap.objs.size,upd H1 s1.heap.objs.size (.lst xs),I1.laid (t':=s1.toks) (λ b u e=>Heap.get?_push_of_some _ e) (Nat.le_refl _) ?_,rfl,q _ hf⟩
 exact⟨z,us,0,r,Heap.get?_push_size _ rfl⟩
end
abbrev Sp:=List V->Hp->VK->XK->Prop
abbrev yR:=List Env->Hp->Shared->XK->Value->Shared->Prop
structure wq (P:Program)(w:World)(K:PySem.W.Frag)(mg:Str->Option Value)(base:Heap)(A:Around)(outer:List Env)(s:Shared)(H:Hp):Prop where
 frames:A.frames=some outer
 mod:Mod K mg base
 bs:∀ b o,base.get? b=some o->s.heap.get? b=some o/\H b=none
 xF:base.objs.size<=s.heap.objs.size
 lR:s.heap.FunFrames base outer
 Cs:∀ b∈tR outer,H b=none
 aX:jI P w H s.heap
 bare:AllBare s.gens
def CE (outer:List Env)(P:Program)(w:World)(H:Hp)(s:Shared)(Q:VK)(u:Value)(s':Shared):Prop:=
 ∃ v H',s'.os=s.os/\AllBare s'.gens/\Un (tR outer) [] H H' s.heap s'.heap/\jI P w H' s'.heap/\RelV v u/\Q v H'
def CR (CX:yR)(outer:List Env)(P:Program)(w:World)(H:Hp)(s:Shared)(Q:VK)(E:XK)(r:Result)(s':Shared):Prop:=
 match r with
 | .ok (.ret u)=>CE outer P w H s Q u s'
 | .ok _=>False
 | .error e=>CX outer H s E e s'
structure gy (P:Program)(w:World)(K:PySem.W.Frag)(mg:Str->Option Value)(base:Heap)(CX:yR)(k:Nat)(f:Addr)(fd:FuncData)(ps:List Str)(sp:Sp):Prop where
 len:∀ vs H Q E,sp vs H Q E->vs.length=ps.length
 run:∀ (A:Around) (outer:List Env) (s:Shared) (H:Hp) (args:Args) (us:List Value) (vs:List V) (Q:VK) (E:XK),df k A->wq P w K mg base A outer s H->BindsTo s fd args (ps.zip us)->Vals vs us->sp vs H Q E->
  codeAny (model P w) A (.call (.ref f) args) (CR CX outer P w H s Q E) s
theorem gy.imp {P:Program}{w:World}{K:PySem.W.Frag}{mg:Str->Option Value}{base:Heap}{CX:yR}{k:Nat}{f:Addr}{fd:FuncData}{ps:List Str}{sp Qm:Sp}(F:gy P w K mg base CX k f fd ps sp)
  (h:∀ vs H Q E,Qm vs H Q E->sp vs H Q E):gy P w K mg base CX k f fd ps Qm:=
 ⟨λ vs H Q E q=>F.len vs H Q E (h _ _ _ _ q),λ A outer s H args us vs Q E hr he hb hv hs=>F.run A outer s H args us vs Q E hr he hb hv (h _ _ _ _ hs)⟩
theorem wq.make {P:Program}{w:World}{K:PySem.W.Frag}{mg:Str->Option Value}{base:Heap}{A:Around}{outer:List Env}{s:Shared}{H:Hp}(e:wq P w K mg base A outer s H)(C:Addr)(us:List Value)(kw:List (Str × Value)) :
  wq P w K mg base (A.under (.builtin "type.__call__" ⟨.ref C :: us,kw⟩)) outer s H:=⟨by first|exact e.frames|(simpa[Around.under,Code.envs,Code.isFrame,pushEnvs]using e.frames),e.mod,e.bs,e.xF,e.lR,e.Cs,e.aX,e.bare⟩
section
variable {X:Cx}{pins:List (Addr × Obj)}{σ:St}{H:Hp}{s s':Shared}
theorem Inv.Md (I:Inv X pins σ H s):wq X.prog X.w X.K X.mg X.base X.A X.stack s H:=
 ⟨I.ok.frames,I.ok.mod,I.bs,Nat.le_trans I.ok.xF I.sz,I.stack,I.oB,I.aX,I.bare⟩
theorem Inv.after {Q:VK}{u:Value}(I:Inv X pins σ H s)(h:CE X.stack X.prog X.w H s Q u s'):EP X pins σ Q u s':=by
 obtain⟨v,H',os,bare,un,aX,r,q⟩:=h
 obtain⟨hh,g,d,t,RI⟩:=s'
 obtain rfl:RI=s.os:=os
 exact⟨v,H',I.call (h':=hh) (g':=g) (d':=d) (t':=t) (ch:=[]) un aX bare (λ b z=>absurd z (by simp)),r,q⟩
end
def zu (sp:Sp)(qa:List V)(E:XK)(t:TA):TE:=λ σ H Q=>t σ H λ vs H1=>sp (vs++qa) H1 Q E
def zr (C:Addr)(m:Str)(sp:Sp)(qa:List V)(E:XK)(ta:TE)(t:TA):TE:=λ σ H Q=>ta σ H λ x H1=>∃ a dx fs,x=.ref a/\H1 a=some (.ins C dx fs)/\fs.lookup m=none/\
 t σ H1 λ vs H2=>sp (x :: (vs++qa)) H2 Q E
def J0 (C:Addr)(sp:Sp)(qa:List V)(E:XK)(t:TA):TE:=λ σ H Q=>t σ H λ vs H1=>∀ x dx,H1 x=none->H1 dx=none->dx≠x->
 sp (.ref x :: (vs++qa)) (upd (upd H1 dx (.own x)) x (.ins C dx [])) (λ v H2=>v=.aC/\Q (.ref x) H2) E
def Binds (K:PySem.W.Frag)(fd:FuncData)(ps:List Str)(ds:List Value):Prop:=
 ∀ (s:Shared) (us:List Value),K.In s.heap->(us++ds).length=ps.length->BindsTo s fd ⟨us,[]⟩ (ps.zip (us++ds))
theorem Binds.all {K:PySem.W.Frag}{fd:FuncData}{ps:List Str}(h:∀ us:List Value,us.length=ps.length->bindArgs fd ⟨us,[]⟩=pure (ps.zip us)):Binds K fd ps []:=λ s us _ hl=>by
 rw[List.append_nil]at hl ⊢
 exact .of_eq (h us hl)
def Passes (CX:yR)(X:Cx)(E:XK):Prop:=∀ (pins:List (Addr × Obj)) (σ:St) (H:Hp) (s:Shared) (e:Value) (s':Shared),Inv X pins σ H s->CX X.stack H s E e s'->X.xe e s'
section
variable {X:Cx}{CX:yR}{k:Nat}{f C:Addr}{fd:FuncData}{ps:List Str}{sp:Sp}{qa:List V}{ds:List Value}{E:XK}{x m:Str}{p pos apos:Pos}{e o:Expr}{es:List Expr}{ta:TE}{t:TA}
theorem sf {pins:List (Addr × Obj)}{σ:St}{H:Hp}{s:Shared}{Q:VK}{us:List Value}{vs:List V}(F:gy X.prog X.w X.K X.mg X.base CX k f fd ps sp)(hr:df k X.A)(hb:Binds X.K fd ps ds)(hd:Vals qa ds)(hx:Passes CX X E)
  (I:Inv X pins σ H s) (r:Vals vs us) (h:sp (vs++qa) H Q E):wpAny (model X.prog X.w) X.A (call (.ref f) us) (EP X pins σ Q) X.xe s:=by
 have r2:Vals (vs++qa) (us++ds):=r.append hd
 have hl:(us++ds).length=ps.length:=by rw[<-r2.length];exact F.len _ _ _ _ h
 refine wpAny_call (codeAny_mono (F.run X.A X.stack s H ⟨us,[]⟩ (us++ds) (vs++qa) Q E hr I.Md (hb s us I.jl hl) r2 h) λ r s' hq=>?_)
 cases r with
 | error e=>exact hx pins σ H s e s' I hq
 | ok fl=>
  cases fl with
  | ret u=>exact I.after hq
  | next=>exact False.elim hq
  | brk=>exact False.elim hq
  | cont=>exact False.elim hq
theorem DH (F:gy X.prog X.w X.K X.mg X.base CX k f fd ps sp)(hr:df k X.A)(hg:Gl X x)(hm:X.mg x=some (.ref f)) (hk:PySem.W.keepIn X.K (.ref f)=true) (hb:Binds X.K fd ps ds)(hd:Vals qa ds)(hx:Passes CX X E)
  (ha:PA X (e :: es) t) (jn:(x == ("__debug__":Str))=false:=by decide) (he:starEach (e :: es) X.env=(false,eval e X.env) :: starEach es X.env:=by rfl) (fj:(backTo pos (starEach es X.env)).any (·.1)=false:=by rfl) :
  PE X (.Call (.Name x p) (e :: es) [] pos) (zu sp qa E t):=by
 intro pins s σ H Q I h
 refine wpAny_Call_Name_kw (kL I hg hm ?_ jn)
 refine PySem.W.callWith_K (h₀:=X.base) I.ok.mod.Lo hk (bI (ha pos pins s σ H _ I h) λ us s1 ⟨vs,H1,I1,r,q⟩=>⟨I1.jl,?_⟩) he fj
 exact sf F hr hb hd hx I1 r q
theorem Aj (F:gy X.prog X.w X.K X.mg X.base CX k f fd ps sp)(hr:df k X.A)(hg:Gl X x)(hm:X.mg x=some (.ref f)) (hk:PySem.W.keepIn X.K (.ref f)=true) (hb:Binds X.K fd ps ds)(hd:Vals qa ds)(hx:Passes CX X E)
  (jn:(x == ("__debug__":Str))=false:=by decide):PE X (.Call (.Name x p) [] [] pos) (zu sp qa E ub):=by
 intro pins s σ H Q I h
 refine wpAny_Call_Name_kw (kL I hg hm ?_ jn)
 exact PySem.W.callWith_K0 I.jl hk (sf (us:=[]) F hr hb hd hx I .nil h)
theorem DA {pl:Sem Bool}(he:PE X o ta)(c:vd X.K C)(hm:Meth X.K C m f)(F:gy X.prog X.w X.K X.mg X.base CX k f fd ps sp)(hr:df k X.A)(hb:Binds X.K fd ps ds)(hd:Vals qa ds)(hx:Passes CX X E)(ha:PA X (e :: es) t)
  (vW:starEach (e :: es) X.env=(false,eval e X.env) :: starEach es X.env:=by rfl) (fj:(backTo pos (starEach es X.env)).any (·.1)=false:=by rfl)
  (ht:eval (.Call (.Attribute o m apos) (e :: es) [] pos) X.env=(do
   let ov <-eval o X.env
   standAt apos.atName
   let (f,first) <-holding [ov] (getMethod ov m pl)
   callWith pos f first (backTo pos (starEach (e :: es) X.env)) (backToKw pos (keywordEach [] X.env))):=by rfl) :
  PE X (.Call (.Attribute o m apos) (e :: es) [] pos) (zr C m sp qa E ta t):=by
 intro pins s σ H Q I h
 refine PySem.W.methodCall_KW (pl:=pl) (bI (he pins s σ H _ I h) λ u s1 ⟨x,H1,I1,rx,a,dx,fs,ex,ea,l,q⟩=>?_) ht
 subst ex
 obtain rfl:u=Value.ref a:=rx
 refine lN I1 ea c hm l ?_
 refine PySem.W.callWith_K (first:=[.ref a]) (h₀:=X.base) I.ok.mod.Lo hm.kp (bI (ha pos pins s1 σ H1 _ I1 q) λ us s2 ⟨vs,H2,I2,r,q2⟩=>⟨I2.jl,?_⟩) vW fj
 exact sf (us:=.ref a :: us) (vs:=.ref a :: vs) F hr hb hd hx I2 (.cons rfl r) q2
theorem Ad {pl:Sem Bool}(he:PE X o ta)(c:vd X.K C)(hm:Meth X.K C m f)(F:gy X.prog X.w X.K X.mg X.base CX k f fd ps sp)(hr:df k X.A)(hb:Binds X.K fd ps ds)(hd:Vals qa ds)(hx:Passes CX X E)
  (ht:eval (.Call (.Attribute o m apos) [] [] pos) X.env=(do
   let ov <-eval o X.env
   standAt apos.atName
   let (f,first) <-holding [ov] (getMethod ov m pl)
   callWith pos f first (backTo pos (starEach [] X.env)) (backToKw pos (keywordEach [] X.env))):=by rfl) :
  PE X (.Call (.Attribute o m apos) [] [] pos) (zr C m sp qa E ta ub):=by
 intro pins s σ H Q I h
 refine PySem.W.methodCall_KW (pl:=pl) (bI (he pins s σ H _ I h) λ u s1 ⟨x,H1,I1,rx,a,dx,fs,ex,ea,l,q⟩=>?_) ht
 subst ex
 obtain rfl:u=Value.ref a:=rx
 refine lN I1 ea c hm l ?_
 exact PySem.W.callWith_K0 (first:=[.ref a]) I1.jl hm.kp (sf (us:=[.ref a]) (vs:=[.ref a]) F hr hb hd hx I1 (.cons rfl .nil) q)
structure Mk (K:PySem.W.Frag)(C f:Addr):Prop where
 makes:PySem.W.makesIn K C=true
 init:PySem.W.findIn K (.ref C) "__init__"=some (some (.ref f))
 fn:PySem.W.isFn K (.ref f)=true
 kp:PySem.W.keepIn K (.ref C)=true
theorem zE {pins:List (Addr × Obj)}{σ:St}{H:Hp}{s:Shared}{Q:VK}{us:List Value}{vs:List V}(M:Mk X.K C f)(F:gy X.prog X.w X.K X.mg X.base CX k f fd ps sp)(hr:df (k+1) X.A) (hb:Binds X.K fd ps ds)(hd:Vals qa ds)
  (hx:Passes CX X E) (I:Inv X pins σ H s) (r:Vals vs us)
  (h:∀ x dx,H x=none->H dx=none->dx≠x->sp (.ref x :: (vs++qa)) (upd (upd H dx (.own x)) x (.ins C dx [])) (λ v H2=>v=.aC/\Q (.ref x) H2) E) :
  wpAny (model X.prog X.w) X.A (call (.ref C) us) (EP X pins σ Q) X.xe s:=by
 have hq:=h (s.heap.objs.size+1) s.heap.objs.size (I.aX.fresh (Nat.le_succ _)) (I.aX.fresh (Nat.le_refl _)) (Nat.ne_of_lt (Nat.lt_succ_self _))
 have I2:=Inv.made (C:=C) I
 have r2:Vals (V.ref (s.heap.objs.size+1) :: (vs++qa)) (Value.ref (s.heap.objs.size+1) :: (us++ds)):=.cons rfl (r.append hd)
 have hl:(Value.ref (s.heap.objs.size+1) :: us++ds).length=ps.length:=by
  have e:=r2.length
  rw[F.len _ _ _ _ hq]at e
  exact e.symm
 refine wpAny_call (A8 (f:=f) I.jl M.makes M.init (beq_iff_eq.mp M.fn) (codeAny_mono (F.run _ X.stack _ _ ⟨Value.ref (s.heap.objs.size+1) :: us,[]⟩ (Value.ref (s.heap.objs.size+1) :: (us++ds)) _ _ E (hr.make C us [])
  (I2.Md.make C us []) (hb _ (Value.ref (s.heap.objs.size+1) :: us) I2.jl hl) r2 hq) λ r s' LB=>?_))
 cases r with
 | error e=>exact hx pins σ _ _ e s' I2 LB
 | ok fl=>
  cases fl with
  | ret u=>
   obtain⟨v,H',I3,rv,ev,q3⟩:=I2.after LB
   subst ev
   exact⟨rv,⟨V.ref (s.heap.objs.size+1),H',I3,rfl,q3⟩⟩
  | next=>exact False.elim LB
  | brk=>exact False.elim LB
  | cont=>exact False.elim LB
theorem Ae (M:Mk X.K C f)(F:gy X.prog X.w X.K X.mg X.base CX k f fd ps sp)(hr:df (k+1) X.A) (hg:Gl X x)(hm:X.mg x=some (.ref C)) (hb:Binds X.K fd ps ds)(hd:Vals qa ds)(hx:Passes CX X E)
  (jn:(x == ("__debug__":Str))=false:=by decide):PE X (.Call (.Name x p) [] [] pos) (J0 C sp qa E ub):=by
 intro pins s σ H Q I h
 refine wpAny_Call_Name_kw (kL I hg hm ?_ jn)
 exact PySem.W.callWith_K0 I.jl M.kp (zE (us:=[]) M F hr hb hd hx I .nil h)
end
section
variable {X:Cx}{CX:yR}{k:Nat}{f C:Addr}{fd:FuncData}{ps ks:List Str}{sp:Sp}{E:XK}{x m:Str}{p pos apos RX:Pos}{e o:Expr}{es:List Expr}{TB:List Keyword}{te ta:TE}{t tk:TA}{nm:Option Str}
variable {g:List Value->List Value->List Value}{gV:List V->List V->List V}
end
structure iD (N P:List Str)(sc:Scope):Prop where
 kind:sc.kind=.function
 co:sc.isCoroutine=false
 gen:sc.isGenerator=false
 nd:N.Nodup
 pre:N.take P.length=P
 par:∀ x∈P,sc.names.lookup x=some .local∨sc.names.lookup x=some .cell
 HA:∀ y∈sc.names,y.2≠.free
theorem rG {kindOf:Str->Option NameKind}{x:Str}:∀ {binds:List (Str × Value)}{m:Str->Option Value},(∀ v,(x,v)∉binds)->bindL kindOf binds m x=m x
 | [],_,_=>rfl
 | (n,v) :: r,m,h=>by
  unfold bindL
  rw[rG λ w hw=>h w (List.mem_cons_of_mem _ hw)]
  split
  ·have:x≠n:=by rintro rfl;exact h v List.mem_cons_self
   simp[this]
  ·rfl
theorem rJ {kindOf:Str->Option NameKind}{x:Str}:∀ {binds:List (Str × Value)}{m:Str->Option Value},(∀ v,(x,v)∉binds)->bindC kindOf binds m x=m x
 | [],_,_=>rfl
 | (n,v) :: r,m,h=>by
  unfold bindC
  rw[rJ λ w hw=>h w (List.mem_cons_of_mem _ hw)]
  split
  ·rfl
  ·have:x≠n:=by rintro rfl;exact h v List.mem_cons_self
   simp[this]
theorem rH {kindOf:Str->Option NameKind}{x:Str}{v:Value}:∀ {P:List Str}{vs:List Value}{i:Nat}{m:Str->Option Value},P.Nodup->P[i]? = some x->vs[i]? = some v->kindOf x=some .local->
  bindL kindOf (P.zip vs) m x=some v
 | [],_,_,_,_,h,_,_=>by simp at h
 | _ :: _,[],_,_,_,_,h,_=>by simp at h
 | p :: P,w :: vs,0,m,nd,h1,h2,hk=>by
  simp at h1 h2;subst h1;subst h2
  show bindL kindOf ((p,w) :: P.zip vs) m p=_
  unfold bindL
  rw[rG λ v hv=>(List.nodup_cons.mp nd).1 (List.of_mem_zip hv).1,if_pos hk]
  simp
 | p :: P,w :: vs,i+1,m,nd,h1,h2,hk=>by
  show bindL kindOf ((p,w) :: P.zip vs) m x=_
  unfold bindL
  exact rH (i:=i) (List.nodup_cons.mp nd).2 (by simpa using h1) (by simpa using h2) hk
theorem rK {kindOf:Str->Option NameKind}{x:Str}{v:Value}:∀ {P:List Str}{vs:List Value}{i:Nat}{m:Str->Option Value},P.Nodup->P[i]? = some x->vs[i]? = some v->kindOf x≠some .local->
  bindC kindOf (P.zip vs) m x=some v
 | [],_,_,_,_,h,_,_=>by simp at h
 | _ :: _,[],_,_,_,_,h,_=>by simp at h
 | p :: P,w :: vs,0,m,nd,h1,h2,hk=>by
  simp at h1 h2;subst h1;subst h2
  show bindC kindOf ((p,w) :: P.zip vs) m p=_
  unfold bindC
  rw[rJ λ v hv=>(List.nodup_cons.mp nd).1 (List.of_mem_zip hv).1,if_neg hk]
  simp
 | p :: P,w :: vs,i+1,m,nd,h1,h2,hk=>by
  show bindC kindOf ((p,w) :: P.zip vs) m x=_
  unfold bindC
  exact rK (i:=i) (List.nodup_cons.mp nd).2 (by simpa using h1) (by simpa using h2) hk
def start (N:List Str)(vs:List V):St:=vs.map some++List.replicate (N.length - vs.length) none
def jG (CX:yR)(P:Program)(w:World)(K:PySem.W.Frag)(mg:Str->Option Value)(base:Heap)(N:List Str)(qual:Str)(scope:Scope)(f:Addr)(cd:Value)(A:Around)(outer:List Env)(s:Shared)(H:Hp)(E:XK):Cx where
 prog:=P
 w:=w
 K:=K
 mg:=mg
 base:=base
 A:=A.deeper (envOfC qual scope s.heap.objs.size f cd)
 N:=N
 gS:=s
 wo:=H
 env:=envOfC qual scope s.heap.objs.size f cd
 outer:=outer
 stack:=envOfC qual scope s.heap.objs.size f cd :: outer
 ex:=[]
 calm:=true
 fn:=λ _=>true
 pn:=[]
 xe:=λ e s'=>wpAny (model P w) (A.deeper (envOfC qual scope s.heap.objs.size f cd)) (leaving (envOfC qual scope s.heap.objs.size f cd) e) (λ _ ve=>CX outer H s E e ve) (λ e' ve=>CX outer H s E e' ve) s'
theorem uX {sc:Scope}{n:Nat}{x:Str}(h:sc.names.lookup x=some .cell):∃ c,(cellsFrom n sc.names []).lookup x=some c:=by
 have q:=PySem.W.cellsFrom_some sc.names n [] (.inl h)
 exact Option.isSome_iff_exists.mp q
theorem yq {CX:yR}{P:Program}{w:World}{K:PySem.W.Frag}{mg:Str->Option Value}{base:Heap}{N ps:List Str}{qual:Str}{scope:Scope}{f:Addr}{cd:Value}{A:Around}{outer:List Env}{s s1:Shared}{H:Hp}{E:XK}{us:List Value}{vs:List V}
  (S:iD N ps scope) (hd:A.handled=none) (e0:wq P w K mg base A outer s H) (hl:vs.length=ps.length) (r:Vals vs us)
  (x:InCallC s s.heap.objs.size (bindL (envOfC qual scope s.heap.objs.size f cd).kindOf (ps.zip us) λ _=>none) (cellsFrom (s.heap.objs.size+1) scope.names []) (bindC (envOfC qual scope s.heap.objs.size f cd).kindOf (ps.zip us) λ _=>none) s1) :
  Inv (jG CX P w K mg base N qual scope f cd A outer s H E) [] (start N vs) H s1:=by
 have fj:ps.length<=N.length:=by have:=congrArg List.length S.pre;rw[List.length_take]at this;omega
 obtain⟨h1,tk,rfl,hk⟩:=x.done
 have noA:∀ b:Addr,b∉(jG CX P w K mg base N qual scope f cd A outer s H E).ex:=λ b z=>absurd (show b∈([]:List Addr) from z) (by simp)
 refine⟨⟨e0.mod,S.kind,rfl,rfl,Nat.le_refl _,λ y z c h1 h2=>?_,λ y hy=>?_,λ y c _ h=>?_,λ _=>hd,Around.frames_deeper e0.frames,.inr ⟨rfl,rfl⟩,λ b z=>absurd z (noA b),e0.bs,e0.xF,λ b _ _=>noA b,λ b z=>absurd z (noA b),e0.lR,e0.Cs⟩,
  rfl,e0.bare,Un.kept hk,⟨_,x.toInCall.ns,λ i y v h1 h2 h3=>?_⟩,λ y c h=>⟨_,x.cell y c h⟩,e0.aX.fresh (Nat.le_refl _),λ y c h=>?_,λ p hp=>absurd (show p∈([]:List (Addr × Obj)) from hp) (by simp),e0.aX.kept hk,?_⟩
 ·exact name_of_addr x.apart (PySem.mem_of_lookup h1) (PySem.mem_of_lookup h2)
 ·have hy:scope.names.lookup y=some .cell∨scope.names.lookup y=some .free:=hy
  rcases hy with hy|hy
  ·exact uX hy
  ·exact absurd rfl (S.HA _ (PySem.mem_of_lookup hy))
 ·exact Nat.le_of_lt (x.above y c (PySem.mem_of_lookup h))
 ·have hi:i < vs.length:=by
   unfold start at h2
   by_cases hi:i < vs.length
   ·exact hi
   ·rw[List.getElem?_append_right (by simpa using hi)]at h2
    rw[List.getElem?_replicate]at h2
    split at h2<;>cases h2
  have ha:vs[i]? = some v:=by
   unfold start at h2
   rw[List.getElem?_append_left (by simpa using hi),List.getElem?_map]at h2
   cases e:vs[i]? with
   | none=>rw[e]at h2;cases h2
   | some a=>rw[e]at h2;cases h2;rfl
  obtain⟨u,hu,rv⟩:=r.get ha
  have hp:ps[i]? = some y:=by
   rw[<-S.pre,List.getElem?_take_of_lt (by omega)];exact h1
  have ndP:ps.Nodup:=by rw[<-S.pre];exact S.nd.sublist (List.take_sublist _ _)
  refine⟨u,rv,?_⟩
  rcases S.par y (List.mem_of_getElem? hp) with k|k
  ·exact .inl ⟨k,rH ndP hp hu k⟩
  ·obtain⟨c,e⟩:=uX (n:=s.heap.objs.size+1) k
   refine .inr ⟨.inl k,c,e,?_⟩
   have q:=x.cell y c e
   rw[rK ndP hp hu (by show scope.names.lookup y≠_;rw[k];decide)]at q
   exact q
 ·exact e0.aX.fresh (Nat.le_of_lt (x.above y c (PySem.mem_of_lookup h)))
 ·unfold start
  show _=N.length
  rw[List.length_append,List.length_map,List.length_replicate]
  omega
theorem FZ {CX:yR}{P:Program}{w:World}{K:PySem.W.Frag}{mg:Str->Option Value}{base:Heap}{k:Nat}{f:Addr}{name qual:Str}{params:Arguments}{body:List Stmt}{scope:Scope}{dV kV doc pm dG ct oc:Value}{an od:Option Addr}
  {qp:Array (Option Value)}{N ps:List Str}{sp:Sp}(lk:K.lookup f=some ⟨oc,od,.func (PySem.W.fnOf name qual params body scope dV kV doc pm an dG ct),qp⟩) (xh:PySem.W.codeIn K dG qual=true) (S:iD N ps scope)
  (len:∀ vs H Q E,sp vs H Q E->vs.length=ps.length)
  (LQ:∀ (A:Around) (outer:List Env) (s:Shared) (H:Hp) (vs:List V) (Q:VK) (E:XK),df k (A.deeper (envOfC qual scope s.heap.objs.size f dG))->sp vs H Q E->
   ∃ t,kI (jG CX P w K mg base N qual scope f dG A outer s H E) body t/\t { nx:=λ _ H'=>Q .aC H',rt:=Q } (start N vs) H) :
  gy P w K mg base CX (k+1) f (PySem.W.fnOf name qual params body scope dV kV doc pm an dG ct) ps sp:=by
 refine⟨len,λ A outer s H args us vs Q E hr e0 hb r Jz=>?_⟩
 have hl:=len _ _ _ _ Jz
 have KX:K.In s.heap:=e0.mod.Lo.keeps λ b o e=>(e0.bs b o e).1
 have lim:s.heap.NoLimit:=e0.mod.nolimit.keeps λ b o e=>(e0.bs b o e).1
 have Bq:∀ y∈ps.zip us,scope.names.lookup y.1=some .local∨(scope.names.lookup y.1=some .cell/\((cellsFrom (s.heap.objs.size+1) scope.names []).lookup y.1).isSome=true):=λ⟨n,v⟩ hy=>by
  rcases S.par n (List.of_mem_zip hy).1 with q|q
  ·exact .inl q
  ·exact .inr ⟨q,PySem.W.cellsFrom_some _ _ _ (.inl q)⟩
 refine codeAny_call_function hr.depth (KX _ _ lk) rfl S.co S.gen rfl (PySem.W.codeRec_of KX xh) (hb _ _ _ _ ?_)
 refine wpAny_newFunctionEnv_cells S.kind Bq λ env he s1 x=>?_
 subst he
 refine⟨lim.keeps x.toInCall.keep,codeAny_func ?_⟩
 obtain⟨t,ht,hq⟩:=LQ A outer s H vs Q E (hr.deeper _) Jz
 have I:Inv (jG CX P w K mg base N qual scope f dG A outer s H E) [] (start N vs) H s1:=yq S hr.hd e0 hl r x
 refine wpAny_mono (ht [] s1 (start N vs) H _ I hq) (λ fl s' hs=>?_) λ e s' hs=>hs
 have fin:∀ {σ':St}{H':Hp}{v:V}{u:Value},Inv (jG CX P w K mg base N qual scope f dG A outer s H E) [] σ' H' s'->RelV v u->Q v H'->CE outer P w H s Q u s':=
  λ {σ' H' v u} J rv q=>⟨v,H',J.os,J.bare,J.base,J.aX,rv,q⟩
 cases fl with
 | ret u=>
  obtain⟨v,σ',H',J,rv,q⟩:=hs
  exact fin J rv q
 | next=>
  obtain⟨σ',H',J,q⟩:=hs
  exact fin (v:=V.aC) (u:=Value.none) J rfl q
 | brk=>
  obtain⟨_,_,_,q⟩:=hs
  exact False.elim q
 | cont=>
  obtain⟨_,_,_,q⟩:=hs
  exact False.elim q
end L2
namespace L2
open PySem PySem.Spec PyProof.Rows
section
variable {X:Cx}{x:Str}{p pos:Pos}{e:Expr}{es:List Expr}{t:TA}{id T:String}{r:List V->Hp->VK->Prop}
def J_ (r:List V->Hp->VK->Prop)(t:TA):TE:=λ σ H Q=>t σ H λ vs H1=>r vs H1 Q
theorem eU (hc:dP X (.builtin id) r) (hg:Gl X x)(hm:X.mg x=none)(hv:bootBuiltins x=some (.builtin id)) (ha:PA X (e :: es) t) (hn:x≠"__name__":=by decide)(jn:(x == ("__debug__":Str))=false:=by decide)
  (he:starEach (e :: es) X.env=(false,eval e X.env) :: starEach es X.env:=by rfl) (fj:(backTo pos (starEach es X.env)).any (·.1)=false:=by rfl):PE X (.Call (.Name x p) (e :: es) [] pos) (J_ r t):=by
 intro pins s σ H Q I h
 refine wpAny_Call_Name_kw (lK I hg hm hv ?_ hn jn)
 exact PyProof.Rows.callWith_builtin1 (bI (ha pos pins s σ H _ I h) λ us s1 ⟨vs,H1,I1,r1,q1⟩=>hc pins s1 σ H1 vs us Q I1 r1 q1) he fj
theorem yc (hc:dP X (.type T) r) (hg:Gl X x)(hm:X.mg x=none)(hv:bootBuiltins x=some (.type T)) (ha:PA X (e :: es) t) (hn:x≠"__name__":=by decide)(jn:(x == ("__debug__":Str))=false:=by decide)
  (he:starEach (e :: es) X.env=(false,eval e X.env) :: starEach es X.env:=by rfl) (fj:(backTo pos (starEach es X.env)).any (·.1)=false:=by rfl):PE X (.Call (.Name x p) (e :: es) [] pos) (J_ r t):=by
 intro pins s σ H Q I h
 refine wpAny_Call_Name_kw (lK I hg hm hv ?_ hn jn)
 exact PyProof.Rows.callWith_type1 (bI (ha pos pins s σ H _ I h) λ us s1 ⟨vs,H1,I1,r1,q1⟩=>hc pins s1 σ H1 vs us Q I1 r1 q1) he fj
end
end L2
namespace HT
open PySem PyProof.Rows
section
open PySem.SeqAt
open PySem.AutoSeq1 (wpAny_loadPart')
open PySem.MeetsSeq PySem.MeetsSeq2 PySem.MeetsSeq3
end
section
variable {prog:Program}{w:World}{A:Around}{E:Value->Shared->Prop}{s:Shared}
theorem Fh {t b:Addr}{vs ws:List Value}{Q:Value->Shared->Prop}(ht:IsTup s.heap t vs.toArray)(hb:IsTup s.heap b ws.toArray)(hv:vs≠[])
  (h1:ws=[]->Q (.ref t) s) (h2:ws≠[]->Q (.ref s.heap.objs.size) { s with heap:=s.heap.push { cls:=.type "tuple",data:=.seq (vs++ws).toArray } })
  (hsz:vs.length+ws.length<=sizeLine):wpAny (model prog w) A (binaryOp .Add (.ref t) (.ref b)) Q E s:=by
 obtain⟨⟨cls,dd,data,sl⟩,ho,hc,n,hd⟩:=id ht
 obtain⟨⟨P5,Mf,data2,Nc⟩,cZ,LP,n2,hd2⟩:=id hb
 simp only at hc hd LP hd2
 subst hc hd LP hd2
 have e:vs.toArray++ws.toArray=(vs++ws).toArray:=by simp
 by_cases hw:ws=[]
 ·exact concat_meets ⟨_,ho,rfl⟩ ⟨_,cZ,rfl⟩ noFill_tuple_add seq_tuple_add PySem.F.slot_tuple_add PySem.F.entry_tuple_add (PySem.F.args_tuple_add_2 _ _)
   (tuple_addW1 t b vs.toArray ws.toArray n n2 dd Mf sl Nc (by simpa using hv) (by simp[hw])) ⟨ho,cZ,h1 hw⟩
 ·refine concat_meets ⟨_,ho,rfl⟩ ⟨_,cZ,rfl⟩ noFill_tuple_add seq_tuple_add PySem.F.slot_tuple_add PySem.F.entry_tuple_add (PySem.F.args_tuple_add_2 _ _)
   (tuple_addW2 t b vs.toArray ws.toArray n n2 dd Mf sl Nc (by simpa using hv) (by simpa using hw) (by rw[List.size_toArray,List.size_toArray];exact hsz)) ⟨ho,cZ,?_⟩
  rw[e]
  exact h2 hw
def dB (n d:Nat):Option Int->Nat
 | none=>d
 | some v=>if v < 0 then (v+(n:Int)).toNat else min v.toNat n
theorem GN (n d:Nat)(hd:d<=n)(o:Option Int):dB n d o<=n:=by
 cases o with
 | none=>exact hd
 | some v=>
  show(if v < 0 then (v+(n:Int)).toNat else min v.toNat n)<=n
  by_cases hv:v < 0
  ·rw[if_pos hv];omega
  ·rw[if_neg hv];exact Nat.min_le_right _ _
theorem xD (v:Int)(n d:Nat):(if v < 0 then max (v+(n:Int)) 0 else min v (n:Int))=((dB n d (some v):Nat):Int):=by
 show(if v < 0 then max (v+(n:Int)) 0 else min v (n:Int))=(((if v < 0 then (v+(n:Int)).toNat else min v.toNat n):Nat):Int)
 by_cases hv:v < 0
 ·simp only[if_pos hv];omega
 ·simp only[if_neg hv];omega
theorem wj (lo hi:Option Int)(n:Nat):Builtin.Slice.sliceAdjust lo hi 1 (n:Int)=(((dB n 0 lo:Nat):Int),((dB n n hi:Nat):Int)):=by
 have h1:¬ ((1:Int) < 0):=by omega
 unfold Builtin.Slice.sliceAdjust
 simp only[h1,if_false]
 refine Prod.ext ?_ ?_
 ·cases lo with
  | none=>rfl
  | some v=>exact xD v n 0
 ·cases hi with
  | none=>rfl
  | some v=>exact xD v n n
theorem vE (i j:Nat):Builtin.Slice.slicePlaces (i:Int) (j:Int) 1=j - i:=by
 unfold Builtin.Slice.slicePlaces
 have h1:(1:Int) > 0:=by omega
 simp only[h1,if_true,Int.ediv_one]
 split<;>omega
theorem pb {v:Value}{o:Option Int}{Q:Option Int->Shared->Prop}(p:IsPart v o)(h:Q o s):wpAny (model prog w) A (Builtin.Slice.slicePartIndex v) Q E s:=by
 cases p with
 | none=>exact slicePart_none h
 | int i t=>exact slicePart_int h
theorem iS {sl:Addr}{vl vu:Value}{lo hi:Option Int}{n:Nat}{Q:Int × Int × Nat->Shared->Prop}(hs:s.heap.IsSliceOf sl vl vu .none)(pl:IsPart vl lo)(pu:IsPart vu hi)
  (h:Q (((dB n 0 lo:Nat):Int),1,dB n n hi - dB n 0 lo) s):wpAny (model prog w) A (Builtin.Slice.sliceApplied (.ref sl) (pure (n:Int))) Q E s:=by
 obtain⟨os,IL,Nw,LJ⟩:=id hs
 unfold Builtin.Slice.sliceApplied Builtin.Slice.sliceFields
 refine wpAny_bind (wpAny_bind (wpAny_field IL LJ (x:=vl) rfl (wpAny_bind (wpAny_field IL LJ (x:=vu) rfl (wpAny_bind (wpAny_field IL LJ (x:=.none) rfl (wpAny_pure ?_)))))))
 refine wpAny_bind (slicePart_none ?_)
 show wpAny _ _ (if ((1:Int) == 0)=true then _ else _) _ _ s
 rw[if_neg (by decide)]
 refine wpAny_bind (pb pl (wpAny_bind (pb pu (wpAny_bind (wpAny_pure ?_)))))
 show wpAny _ _ (match Builtin.Slice.sliceAdjust lo hi 1 (n:Int) with|(lo,hi)=>pure (lo,(1:Int),Builtin.Slice.slicePlaces lo hi 1)) _ _ s
 rw[wj lo hi n]
 show wpAny _ _ (pure (((dB n 0 lo:Nat):Int),(1:Int),Builtin.Slice.slicePlaces ((dB n 0 lo:Nat):Int) ((dB n n hi:Nat):Int) 1)) _ _ s
 rw[vE]
 exact wpAny_pure h
theorem zZ (xs:Array Value)(i k:Nat):((List.range k).filterMap λ(m:Nat)=>xs[((i:Int)+(m:Int) * 1).toNat]?).toArray=((xs.toList.drop i).take k).toArray:=by
 have e:(λ(m:Nat)=>xs[((i:Int)+(m:Int) * 1).toNat]?)=λ m=>xs[i+m]?:=by
  funext m
  have:((i:Int)+(m:Int) * 1).toNat=i+m:=by omega
  rw[this]
 rw[e]
 have:=pick_run xs i k
 rw[List.filterMap_map]at this
 have e2:((λ x=>xs[x]?) ∘ λ x=>i+x)=λ m=>xs[i+m]?:=rfl
 rw[e2]at this
 rw[this]
theorem mH {t sl:Addr}{items:Array Value}{vl vu:Value}{lo hi:Option Int}{Q:Value->Shared->Prop}(ht:IsTup s.heap t items)(hs:s.heap.IsSliceOf sl vl vu .none)(pl:IsPart vl lo)(pu:IsPart vu hi)
  (hw:¬ (dB items.size 0 lo=0/\dB items.size items.size hi=items.size))
  (h:Q (.ref s.heap.objs.size) { s with heap:=s.heap.push { cls:=.type "tuple",data:=.seq ((items.toList.drop (dB items.size 0 lo)).take (dB items.size items.size hi - dB items.size 0 lo)).toArray } })
  (hsz:items.size<=sizeLine):wpAny (model prog w) A (getItem (.ref t) (.ref sl)) Q E s:=by
 have xa:sizeOk (.seq ((items.toList.drop (dB items.size 0 lo)).take (dB items.size items.size hi - dB items.size 0 lo)).toArray):=by
  show((items.toList.drop (dB items.size 0 lo)).take (dB items.size items.size hi - dB items.size 0 lo)).toArray.size<=sizeLine
  rw[List.size_toArray,List.length_take,List.length_drop,Array.length_toList]
  omega
 have hj:dB items.size items.size hi<=items.size:=GN _ _ (Nat.le_refl _) hi
 obtain⟨os,IL,Nw,LJ⟩:=id hs
 have PK:s.TypeIs (.ref sl) "slice":=⟨os,IL,Nw⟩
 unfold getItem
 try with_reducible refine wpAny_holding ?_
 first|refine wpAny_bind (wpAny_pure ?_)|skip
 refine wpAny_bind (wpAny_sequenceKey ht.typeIs (by decide) ?_)
 refine wpAny_bind (wpAny_callSpecial?_slot (name:=Str.ofString "__getitem__") ht.typeIs PyProof.Rows.slot_tuple_getitem
  (wpAny_call_entry PyProof.Rows.slot_tuple_getitem ht.typeIs entry_tuple_getitem ?_ (args_tuple_getitem _ _)))
 show wpAny _ _ (Builtin.Tuple.tupleItemsOf (.ref t) >>= _) _ _ s
 refine wpAny_bind (tupleItemsOf_ ht ?_)
 refine wpAny_bind (wpAny_typeOf PK ?_)
 rw[if_pos (by decide)]
 refine wpAny_bind (iS hs pl pu ?_)
 have Sm:¬ ((((dB items.size 0 lo:Nat):Int) == 0 && (1:Int) == 1 && (dB items.size items.size hi - dB items.size 0 lo) == items.size)=true):=by
  intro q
  rw[Bool.and_eq_true,Bool.and_eq_true]at q
  have q1:((dB items.size 0 lo:Nat):Int)=0:=eq_of_beq q.1.1
  have q2:dB items.size items.size hi - dB items.size 0 lo=items.size:=eq_of_beq q.2
  exact hw ⟨by omega,by omega⟩
 show wpAny _ _ (if (((dB items.size 0 lo:Nat):Int) == 0 && (1:Int) == 1 && (dB items.size items.size hi - dB items.size 0 lo) == items.size)=true then _ else _) _ _ s
 rw[if_neg Sm,zZ]
 first
  | exact wpAny_bind (m:=Builtin.Tuple.tupleExact _) (wpAny_newObj_type (wpAny_pure ⟨_,rfl,wpAny_pure h⟩) xa)
  | exact wpAny_bind (m:=Builtin.Tuple.tupleExact _) (wpAny_newObj_type (wpAny_bind (wpAny_pure (wpAny_pure ⟨_,rfl,wpAny_pure h⟩))) xa)
  | exact wpAny_bind (wpAny_bind (m:=Builtin.Tuple.tupleExact _) (wpAny_newObj_type (wpAny_pure (wpAny_pure ⟨_,rfl,wpAny_pure h⟩)) xa))
  | exact wpAny_bind (wpAny_bind (m:=Builtin.Tuple.tupleExact _) (wpAny_newObj_type (wpAny_pure ⟨_,rfl,wpAny_pure h⟩) xa))
end
end HT
namespace L2
open PySem PySem.Spec PyProof.Rows
abbrev TO:=St->Hp->(Option Int->Hp->Prop)->Prop
def PO (X:Cx)(e:Option Expr)(t:TO):Prop:=
 ∀ (pins:List (Addr × Obj)) (s:Shared) (σ:St) (H:Hp) (Q:Option Int->Hp->Prop),Inv X pins σ H s->t σ H Q->
  wpAny (model X.prog X.w) X.A (evalPart e X.env) (λ u s'=>∃ o H',Inv X pins σ H' s'/\IsPart u o/\Q o H') X.xe s
def CO:TO:=λ _ H Q=>Q none H
def JW (t:TE):TO:=λ σ H Q=>t σ H λ x H1=>∃ i,x=.int i/\Q (some i) H1
section
variable {X:Cx}{e:Expr}{te:TE}{lo hi:Option Expr}{tl th:TO}{pos p2:Pos}
theorem Dq:PO X none CO:=by
 intro pins s σ H Q I h
 rw[evalPart_none]
 exact wpAny_pure ⟨none,H,I,.none,h⟩
theorem Dp (h:PE X e te):PO X (some e) (JW te):=by
 intro pins s σ H Q I hw
 rw[evalPart_some]
 refine bI (h pins s σ H _ I hw) λ u s1 ⟨x,H1,I1,r1,q1⟩=>?_
 obtain⟨i,rfl,q⟩:=q1
 obtain⟨t,rfl⟩:=r1
 exact⟨some i,H1,I1,.int i t,q⟩
def M4 (X:Cx)(r:V->Option Int->Option Int->Hp->VK->Prop):Prop:=
 ∀ (pins:List (Addr × Obj)) (s:Shared) (σ:St) (H:Hp) (x:V) (v vl vu:Value) (lo hi:Option Int) (sl:Addr) (Q:VK),Inv X pins σ H s->RelV x v->s.heap.IsSliceOf sl vl vu .none->IsPart vl lo->IsPart vu hi->r x lo hi H Q->
  ∃ T id,typeLookup (.type T) "__getitem__"=pure (some (.builtin id))/\s.TypeIs v T/\wpAny (model X.prog X.w) X.A (getItem v (.ref sl)) (EP X pins σ Q) X.xe s
def Rq (r:V->Option Int->Option Int->Hp->VK->Prop)(te:TE)(tl th:TO):TE:=λ σ H Q=>te σ H λ x H1=>tl σ H1 λ l H2=>th σ H2 λ u H3=>r x l u H3 Q
theorem Ac {r:V->Option Int->Option Int->Hp->VK->Prop}(hr:M4 X r)(he:PE X e te)(hl:PO X lo tl)(hu:PO X hi th):PE X (.Subscript e (.Slice lo hi none p2) pos) (Rq r te tl th):=by
 intro pins s σ H Q I h
 refine Subscript_ (bI (he pins s σ H _ I h) λ v s1 ⟨x,H1,I1,r1,q1⟩=>?_)
 refine wpAny_Slice (bI (hl pins s1 σ H1 _ I1 q1) λ vl s2 ⟨l,H2,I2,pl,q2⟩=>bI (hu pins s2 σ H2 _ I2 q2) λ vu s3 ⟨u,H3,I3,pu,q3⟩=>?_)
 rw[evalPart_none]
 refine wpAny_pure ?_
 have I4:Inv X pins σ H3 { s3 with heap:=s3.heap.push { cls:=.type "slice",data:=.fields #[vl,vu,.none] } }:=I3.kept (t':=s3.toks) λ b ob q=>Heap.get?_push_of_some _ q
 obtain⟨T,id,hT,ht,hg⟩:=hr pins { s3 with heap:=s3.heap.push { cls:=.type "slice",data:=.fields #[vl,vu,.none] } } σ H3 x v vl vu l u s3.heap.objs.size Q I4 r1 (Heap.IsSliceOf.new ..) pl pu q3
 show wpAny (model X.prog X.w) X.A (subscriptTail e (.Slice lo hi none p2) v (.ref s3.heap.objs.size)) (EP X pins σ Q) X.xe { s3 with heap:=s3.heap.push { cls:=.type "slice",data:=.fields #[vl,vu,.none] } }
 exact tail_any (ops:=[.ref s3.heap.objs.size,v]) ht hT hg (by with_unfolding_all rfl)
def qb (xs:List V)(lo hi:Option Int):List V:=(xs.drop (HT.dB xs.length 0 lo)).take (HT.dB xs.length xs.length hi - HT.dB xs.length 0 lo)
theorem n4 (xs:List V)(lo hi:Option Int):(qb xs lo hi).length<=xs.length:=by
 unfold qb
 rw[List.length_take,List.length_drop]
 omega
def Oi (K:PySem.W.Frag):V->Option Int->Option Int->Hp->VK->Prop:=λ x lo hi H Q=>∃ a xs,x=.ref a/\hW K H a xs/\
 ¬ (HT.dB xs.length 0 lo=0/\HT.dB xs.length xs.length hi=xs.length)/\∀ p,H p=none->Q (.ref p) (upd H p (.tup (qb xs lo hi)))
theorem GH:M4 X (Oi X.K):=by
 intro pins s σ H x v vl vu lo hi sl Q I rx hs pl pu h
 obtain⟨a,xs,rfl,hx,hw,q⟩:=h
 cases rx
 obtain⟨its,r,ht,hz⟩:=I.tuple hx
 have hlen:its.toArray.size=xs.length:=by rw[List.size_toArray];exact r.length.symm
 refine⟨"tuple",_,PyProof.Rows.slot_tuple_getitem.lookup,ht.typeIs,?_⟩
 refine HT.mH ht hs pl pu (by rw[hlen];exact hw) ?_ (by rw[hlen];exact hz)
 rw[hlen]
 refine⟨.ref s.heap.objs.size,_,I.laid (t':=s.toks) (o:=.tup (qb xs lo hi)) (λ b ob q=>Heap.get?_push_of_some _ q) (Nat.le_refl _) ?_,rfl,q _ (I.aX.fresh (Nat.le_refl _))⟩
 exact⟨Nat.le_trans (n4 xs lo hi) hz,_,(r.drop (HT.dB xs.length 0 lo)).take (HT.dB xs.length xs.length hi - HT.dB xs.length 0 lo),IsTup.new _ _⟩
def Ki (K:PySem.W.Frag):R2:=λ x y H Q=>∃ a b xs ys,x=.ref a/\y=.ref b/\hW K H a xs/\hW K H b ys/\xs≠[]/\xs.length+ys.length<=sizeLine/\
 (ys=[]->Q (.ref a) H)/\(ys≠[]->∀ p,H p=none->Q (.ref p) (upd H p (.tup (xs++ys))))
theorem Vals.oE {xs:List V}{us:List Value}(r:Vals xs us):us=[] ↔ xs=[]:=by
 cases r with
 | nil=>simp
 | cons _ _=>simp
theorem DK:iC X (binaryOp .Add) (Ki X.K):=by
 intro pins s σ H x y v u Q I rx ry h
 obtain⟨a,b,xs,ys,rfl,rfl,ha,hb,hx,hz,q1,q2⟩:=h
 cases rx
 cases ry
 obtain⟨its,r1,p1,_⟩:=I.tuple ha
 obtain⟨dm,r2,p2,_⟩:=I.tuple hb
 refine HT.Fh p1 p2 (λ z=>hx (r1.oE.mp z)) (λ z=>⟨.ref a,H,I,rfl,q1 (r2.oE.mp z)⟩) (λ z=>?_) (by rw[<-r1.length,<-r2.length];exact hz)
 refine⟨.ref s.heap.objs.size,_,I.laid (t':=s.toks) (o:=.tup (xs++ys)) (λ b ob q=>Heap.get?_push_of_some _ q) (Nat.le_refl _) ?_,rfl,q2 (λ w=>z (r2.oE.mpr w)) _ (I.aX.fresh (Nat.le_refl _))⟩
 exact⟨by rw[List.length_append];exact hz,_,r1.append r2,IsTup.new _ _⟩
end
end L2
namespace L2
open PySem PySem.Spec PyProof.Rows
def w6 (n:Nat)(i:Int):Option Nat:=if 0<=i then (if i < n then some i.toNat else none) else if -(n:Int)<=i then some (i+n).toNat else none
def jD {α:Type}(xs:List α)(i:Int):Option α:=(w6 xs.length i).bind λ j=>xs[j]?
theorem sL {n:Nat}{i:Int}{j:Nat}(h:w6 n i=some j):seqIndex? i n=some j/\j < n/\-(n:Int)<=i/\i < n:=by
 unfold w6 at h
 by_cases h0:0<=i
 ·rw[if_pos h0]at h
  by_cases h1:i < n
  ·rw[if_pos h1]at h
   have e:i.toNat=j:=Option.some.inj h
   exact⟨by rw[seqIndex_of h0 h1,e],by omega,by omega,h1⟩
  ·rw[if_neg h1]at h;cases h
 ·rw[if_neg h0]at h
  by_cases h1:-(n:Int)<=i
  ·rw[if_pos h1]at h
   have e:(i+n).toNat=j:=Option.some.inj h
   exact⟨by rw[seqIndex_neg (by omega) h1,e],by omega,h1,by omega⟩
  ·rw[if_neg h1]at h;cases h
theorem tw {α:Type}{xs:List α}{i:Int}{v:α}(h:jD xs i=some v):∃ j,seqIndex? i xs.length=some j/\xs[j]? = some v/\j < xs.length/\-(xs.length:Int)<=i/\i < xs.length:=by
 unfold jD at h
 cases e:w6 xs.length i with
 | none=>rw[e]at h;cases h
 | some j=>
  rw[e]at h
  obtain⟨h1,h2,h3,h4⟩:=sL e
  exact⟨j,h1,h,h2,h3,h4⟩
theorem jy {α:Type}{xs:List α}{j:Nat}{v:α}(h:xs[j]? = some v):jD xs (j:Int)=some v:=by
 have hj:j < xs.length:=(List.getElem?_eq_some_iff.mp h).1
 have e:w6 xs.length (j:Int)=some j:=by
  unfold w6
  rw[if_pos (by omega),if_pos (by omega)];simp
 unfold jD;rw[e];exact h
def xI (b:Expr):Prop:=∀ o i,subscripted b false o i=operate [o,i] (getItem o i)
def JK (X:Cx)(r:R2):Prop:=
 ∀ (value slice:Expr) (pins:List (Addr × Obj)) (s:Shared) (σ:St) (H:Hp) (x y:V) (v u:Value) (Q:VK),Inv X pins σ H s->RelV x v->RelV y u->r x y H Q->
  subscripted slice false v u=operate [v,u] (getItem v u)->wpAny (model X.prog X.w) X.A (subscriptTail value slice v u) (EP X pins σ Q) X.xe s
def Cy (X:Cx)(id:String)(r:V->List V->Hp->VK->Prop):Prop:=
 ∀ (pins:List (Addr × Obj)) (s:Shared) (σ:St) (H:Hp) (x:V) (xs:List V) (v:Value) (us:List Value) (Q:VK),Inv X pins σ H s->RelV x v->Vals xs us->r x xs H Q->
  wpAny (model X.prog X.w) X.A (call (.builtin id) (v :: us)) (EP X pins σ Q) X.xe s
section
variable {X:Cx}{a b:Expr}{ta tb:TE}{pos:Pos}
theorem Kt {r:R2}(hr:JK X r)(ha:PE X a ta)(hb:PE X b tb)(hs:xI b):PE X (.Subscript a b pos) (JX r ta tb):=by
 intro pins s σ H Q I h
 exact Subscript_ (Jm ha hb I h λ v u s2 x y H2 I2 rx ry q=>hr a b pins s2 σ H2 x y v u Q I2 rx ry q (hs _ _))
def Oo (K:PySem.W.Frag):R2:=λ x y H Q=>∃ p xs i v,x=.ref p/\y=.int i/\fB K H p xs/\jD xs i=some v/\Q v H
def Ol (K:PySem.W.Frag):R2:=λ x y H Q=>∃ p xs i v,x=.ref p/\y=.int i/\hW K H p xs/\jD xs i=some v/\Q v H
def Om:R2:=λ x y H Q=>∃ z i c,x=.str z/\y=.int i/\z.length<=sizeLine/\jD z.cps.toList i=some c/\Q (.str ⟨#[c]⟩) H
theorem wZ:JK X (Oo X.K):=by
 intro value slice pins s σ H x y v u Q I rx ry h hs
 obtain⟨p,xs,i,z,rfl,rfl,hq,he,q⟩:=h
 cases rx
 obtain⟨t,rfl⟩:=ry
 obtain⟨its,r,pl,hz⟩:=I.list hq
 obtain⟨j,h1,h2,h3,h4,h5⟩:=tw he
 obtain⟨w,ew,se⟩:=r.get h2
 have hl:=r.length
 have hn:=j_
 have fin:EP X pins σ Q w s:=⟨z,H,I,se,q⟩
 by_cases h0:0<=i
 ·have hj:i.toNat=j:=by
   rw[seqIndex_of h0 h5]at h1
   exact Option.some.inj h1
  exact item_listR pl.isList h0 (by omega) (by rw[hj];simpa using ew) fin hs
 ·have hj:(i+(its.toArray.size:Int)).toNat=j:=by
   rw[seqIndex_neg (by omega) h4]at h1
   rw[List.size_toArray,<-hl]
   exact Option.some.inj h1
  exact subscriptTail_builtinR (x:=w) pl.isList.typeIs slot_list_getitem.lookup
   (wpAny_getItem_list_neg (Q:=λ r s'=>r=w/\EP X pins σ Q r s') pl.isList (by omega) (by rw[List.size_toArray]<;>omega) (by omega) (by rw[hj];simpa using ew) ⟨rfl,fin⟩) hs
theorem IE:JK X (Ol X.K):=by
 intro value slice pins s σ H x y v u Q I rx ry h hs
 obtain⟨p,xs,i,z,rfl,rfl,hq,he,q⟩:=h
 cases rx
 obtain⟨t,rfl⟩:=ry
 obtain⟨its,r,pl,hz⟩:=I.tuple hq
 obtain⟨j,h1,h2,h3,h4,h5⟩:=tw he
 obtain⟨w,ew,se⟩:=r.get h2
 have hl:=r.length
 have hn:=j_
 have fin:EP X pins σ Q w s:=⟨z,H,I,se,q⟩
 exact subscriptTail_builtinR (x:=w) pl.typeIs slot_tuple_getitem.lookup
  (getItem_tuple (j:=j) (Q:=λ r s'=>r=w/\EP X pins σ Q r s') pl (by omega) (by omega) (by rw[List.size_toArray,<-hl];exact h1) (by simpa using ew) ⟨rfl,fin⟩) hs
theorem IF:JK X Om:=by
 intro value slice pins s σ H x y v u Q I rx ry h hs
 obtain⟨z,i,c,rfl,rfl,hz,he,q⟩:=h
 obtain⟨t,rfl⟩:=rx
 obtain⟨t',rfl⟩:=ry
 obtain⟨j,h1,h2,h3,h4,h5⟩:=tw he
 have hl:z.cps.toList.length=z.length:=by simp[Str.length]
 rw[hl]at h1 h4 h5
 have hn:=j_
 exact tail_any (typeIs_str s z t) slot_str_getitem.lookup (getItem_str (c:=c) (by
  have e1:decide (i < -(2 ^ 63:Int))=false:=decide_eq_false (by omega)
  have e2:decide (i ≥ 2 ^ 63)=false:=decide_eq_false (by omega)
  rw[e1,e2,Bool.or_false]) (by rw[h1];simpa using h2) ⟨.str ⟨#[c]⟩,H,I.tok _,⟨_,rfl⟩,q⟩) hs
theorem vN (its:List Value)(n j:Nat)(u:Value):Obj.mapSeq (·.setIfInBounds j u) { cls:=.type "list",data:=.seq its.toArray n }={ cls:=.type "list",data:=.seq (its.set j u).toArray n }:=by
 simp[Obj.mapSeq]
theorem Inv.lst {pins:List (Addr × Obj)}{σ:St}{H:Hp}{s:Shared}{p:Addr}{xs:List V}(I:Inv X pins σ H s)(h:H p=some (.lst xs)) :
  ∃ (its:List Value) (n:Nat),Vals xs its/\s.heap.get? p=some { cls:=.type "list",data:=.seq its.toArray n }/\xs.length<=sizeLine:=by
 obtain⟨z,its,n,r,e⟩:=I.aX p _ h
 exact⟨its,n,r,e,z⟩
theorem Inv.Ip {pins:List (Addr × Obj)}{σ:St}{H:Hp}{s:Shared}{p:Addr}{xs ys:List V}{its its':List Value}{n n':Nat}{f:Obj->Obj}(I:Inv X pins σ H s)(h:H p=some (.lst xs))
  (ho:s.heap.get? p=some { cls:=.type "list",data:=.seq its.toArray n }) (hf:f { cls:=.type "list",data:=.seq its.toArray n }={ cls:=.type "list",data:=.seq its'.toArray n' }) (r:Vals ys its') (hz:ys.length<=sizeLine) (t:Nat) :
  Inv X pins σ (upd H p (.lst ys)) { s with heap:=s.heap.update p f,toks:=t }:=by
 have e:(s.heap.update p f).get? p=some { cls:=.type "list",data:=.seq its'.toArray n' }:=by
  rw[Heap.get?_update_self f ho (by rw[hf]<;>rfl),hf]
 refine I.write (x:=p) (e:=p) (by rw[h];trivial) (.inl rfl) (λ b u hb q=>(Heap.get?_update_other _ _ (Ne.symm hb)).trans q) ⟨_,e⟩ ?_
 exact⟨hz,its',n',r,e⟩
def Kf:V->V->V->Hp->(Hp->Prop)->Prop:=λ o i v H Q=>∃ p xs k j,o=.ref p/\i=.int k/\H p=some (.lst xs)/\w6 xs.length k=some j/\Q (upd H p (.lst (xs.set j v)))
theorem set_list:Jr X Kf:=by
 intro pins s σ H o i v ov iv u Q I ro ri rv h
 obtain⟨p,xs,k,j,rfl,rfl,hp,hj,q⟩:=h
 cases ro
 obtain⟨t,rfl⟩:=ri
 obtain⟨its,n,r,ho,hz⟩:=I.lst hp
 obtain⟨h1,h2,h3,h4⟩:=sL hj
 have hl:=r.length
 have hn:=j_
 have I':Inv X pins σ (upd H p (.lst (xs.set j v))) { s with heap:=s.heap.update p (Obj.mapSeq (·.setIfInBounds j u)) }:=
  I.Ip hp ho (vN its n j u) (r.set rv j) (by rw[List.length_set];exact hz) s.toks
 by_cases h0:0<=k
 ·have hk:k.toNat=j:=by
   rw[seqIndex_of h0 h4]at h1
   exact Option.some.inj h1
  exact PySem.W.ki_setAt ho h0 (by omega) (by rw[List.size_toArray,<-hl];exact h4) (by rw[hk];exact⟨_,I',q⟩)
 ·have hk:(k+(its.toArray.size:Int)).toNat=j:=by
   rw[seqIndex_neg (by omega) h3]at h1
   rw[List.size_toArray,<-hl]
   exact Option.some.inj h1
  exact PySem.W.ki_setBack ho (by omega) (by rw[List.size_toArray,<-hl];exact h3) (by omega) (by rw[hk];exact⟨_,I',q⟩)
theorem r_ (lo hi:Option Int)(n:Nat):(sliceBounds lo hi none n).1=((HT.dB n 0 lo:Nat):Int)/\(sliceBounds lo hi none n).2.1=((HT.dB n n hi:Nat):Int)/\(sliceBounds lo hi none n).2.2=1:=by
 refine⟨?_,?_,rfl⟩
 ·cases lo with
  | none=>simp[sliceBounds,HT.dB]
  | some i=>
   simp only[sliceBounds,HT.dB,Option.getD_none,show(1:Int) > 0 by decide,if_true]
   by_cases h:i < 0
   ·simp only[h,if_true]<;>omega
   ·simp only[h,if_false]<;>omega
 ·cases hi with
  | none=>simp[sliceBounds,HT.dB]
  | some i=>
   simp only[sliceBounds,HT.dB,Option.getD_none,show(1:Int) > 0 by decide,if_true]
   by_cases h:i < 0
   ·simp only[h,if_true]<;>omega
   ·simp only[h,if_false]<;>omega
theorem qk (its:List Value)(lo hi:Option Int):slicePick its.toArray lo hi none=((its.drop (HT.dB its.length 0 lo)).take (HT.dB its.length its.length hi - HT.dB its.length 0 lo)).toArray:=by
 obtain⟨h1,h2,h3⟩:=r_ lo hi its.toArray.size
 unfold slicePick
 rw[h1,h2,h3]
 simp only[sliceRange_one,pick_run,List.size_toArray]<;>rfl
def Oj (K:PySem.W.Frag):V->Option Int->Option Int->Hp->VK->Prop:=λ x lo hi H Q=>∃ a xs,x=.ref a/\fB K H a xs/\∀ p,H p=none->Q (.ref p) (upd H p (.lst (qb xs lo hi)))
theorem wC:M4 X (Oj X.K):=by
 intro pins s σ H x v vl vu lo hi sl Q I rx hs pl pu h
 obtain⟨a,xs,rfl,hx,q⟩:=h
 cases rx
 obtain⟨its,r,ht,hz⟩:=I.list hx
 have hlen:=r.length
 refine⟨"list",_,slot_list_getitem.lookup,ht.isList.typeIs,?_⟩
 refine wpAny_getItem_list_slice ht.isList hs pl pu .none (by simp) ?_ (by rw[List.size_toArray]<;>omega)
 rw[qk,<-hlen]
 refine⟨.ref s.heap.objs.size,_,I.laid (t':=s.toks) (o:=.lst (qb xs lo hi)) (λ b ob q=>Heap.get?_push_of_some _ q) (Nat.le_refl _) ?_,rfl,q _ (I.aX.fresh (Nat.le_refl _))⟩
 exact⟨Nat.le_trans (n4 xs lo hi) hz,_,0,(r.drop (HT.dB xs.length 0 lo)).take (HT.dB xs.length xs.length hi - HT.dB xs.length 0 lo),Heap.get?_push_size _ rfl⟩
def mL:V->Bool
 | .aC=>true
 | .bl _=>true
 | .int _=>true
 | .str _=>true
 | _=>false
def iK:V->V->Bool
 | .aC,.aC=>true
 | .bl a,.bl b=>a == b
 | .bl a,.int b=>(if a then 1 else 0) == b
 | .int a,.bl b=>a == (if b then 1 else 0)
 | .int a,.int b=>a == b
 | .str a,.str b=>a == b
 | _,_=>false
theorem a7 {A:Around}{s:Shared}{y x:V}{u v:Value}(ry:RelV y u)(rx:RelV x v)(fy:mL y=true)(fx:mL x=true):SeqAt.EqAt A s u v (iK y x):=by
 cases y with
 | aC=>
  cases ry
  cases x with
  | aC=>cases rx;exact SeqAt.EqAt.same _
  | bl b=>cases rx;exact SeqAt.EqAt.none_bool b
  | int b=>obtain⟨t,rfl⟩:=rx;exact SeqAt.EqAt.none_int b t
  | str b=>obtain⟨t,rfl⟩:=rx;exact SeqAt.EqAt.none_str b t
  | _=>exact absurd (show false=true from fx) Bool.false_ne_true
 | bl a=>
  cases ry
  cases x with
  | aC=>cases rx;exact SeqAt.EqAt.bool_none a
  | bl b=>cases rx;exact SeqAt.EqAt.bool_bool a b
  | int b=>obtain⟨t,rfl⟩:=rx;exact SeqAt.EqAt.bool_int a b t
  | str b=>obtain⟨t,rfl⟩:=rx;exact SeqAt.EqAt.bool_str a b t
  | _=>exact absurd (show false=true from fx) Bool.false_ne_true
 | int a=>
  obtain⟨t',rfl⟩:=ry
  cases x with
  | aC=>cases rx;exact SeqAt.EqAt.int_none a t'
  | bl b=>cases rx;exact SeqAt.EqAt.int_bool a t' b
  | int b=>obtain⟨t,rfl⟩:=rx;exact SeqAt.EqAt.int_int a t' b t
  | str b=>obtain⟨t,rfl⟩:=rx;exact SeqAt.EqAt.int_str a t' b t
  | _=>exact absurd (show false=true from fx) Bool.false_ne_true
 | str a=>
  obtain⟨t',rfl⟩:=ry
  cases x with
  | aC=>cases rx;exact SeqAt.EqAt.str_none a t'
  | bl b=>cases rx;exact SeqAt.EqAt.str_bool a t' b
  | int b=>obtain⟨t,rfl⟩:=rx;exact SeqAt.EqAt.str_int a t' b t
  | str b=>obtain⟨t,rfl⟩:=rx;exact SeqAt.EqAt.str_str a t' b t
  | _=>exact absurd (show false=true from fx) Bool.false_ne_true
 | _=>exact absurd (show false=true from fy) Bool.false_ne_true
def v9 (x:V)(u:Value):Bool:=match u with
 | .none=>iK .aC x
 | .bool b=>iK (.bl b) x
 | .int i _=>iK (.int i) x
 | .str z _=>iK (.str z) x
 | _=>false
theorem BJ {x y:V}{u:Value}(r:RelV y u)(f:mL y=true):v9 x u=iK y x:=by
 cases y with
 | aC=>cases r;rfl
 | bl b=>cases r;rfl
 | int i=>obtain⟨t,rfl⟩:=r;rfl
 | str z=>obtain⟨t,rfl⟩:=r;rfl
 | _=>exact absurd (show false=true from f) Bool.false_ne_true
theorem mO {x:V}:∀ {xs:List V}{us:List Value},Vals xs us->xs.all mL=true->us.any (v9 x)=xs.any λ y=>iK y x
 | _,_,.nil,_=>rfl
 | y :: xs,u :: us,.cons r t,f=>by
  rw[List.all_cons,Bool.and_eq_true]at f
  rw[List.any_cons,List.any_cons,BJ r f.1,mO t f.2]
theorem jZ {A:Around}{s:Shared}{x:V}{v:Value}(rx:RelV x v)(fx:mL x=true):∀ {xs:List V}{us:List Value},Vals xs us->xs.all mL=true->∀ u∈us,SeqAt.EqAt A s u v (v9 x u)
 | _,_,.nil,_=>λ u hu=>by cases hu
 | y :: xs,u :: us,.cons r t,f=>λ u' hu=>by
  rw[List.all_cons,Bool.and_eq_true]at f
  rcases List.mem_cons.mp hu with rfl|hu
  ·rw[BJ r f.1];exact a7 r rx f.1 fx
  ·exact jZ rx fx t f.2 u' hu
def Nl (x:V)(xs:List V):Bool:=xs.any λ y=>iK y x
def Qq (K:PySem.W.Frag)(neg:Bool):R2:=λ x y H Q=>∃ p xs,y=.ref p/\(fB K H p xs∨hW K H p xs)/\mL x=true/\xs.all mL=true/\Q (.bl (if neg then !Nl x xs else Nl x xs)) H
theorem yf:iC X (compareOp .In) (Qq X.K false):=by
 intro pins s σ H x y v u Q I rx ry h
 obtain⟨p,xs,rfl,hq,fx,fs,q⟩:=h
 cases ry
 rcases hq with hq|hq
 ·obtain⟨its,r,pl,hz⟩:=I.list hq
  refine SeqAt.in_listAt (v9 x) pl.isList (λ w hw=>jZ rx fx r fs w (by simpa using hw)) ⟨.bl _,H,I,rfl,?_⟩
  rw[show its.toArray.any (v9 x)=its.any (v9 x) by simp,mO r fs]
  exact q
 ·obtain⟨its,r,pl,hz⟩:=I.tuple hq
  refine SeqAt.in_tupleAt (v9 x) pl (λ w hw=>jZ rx fx r fs w (by simpa using hw)) ⟨.bl _,H,I,rfl,?_⟩
  rw[show its.toArray.any (v9 x)=its.any (v9 x) by simp,mO r fs]
  exact q
theorem su:iC X (compareOp .NotIn) (Qq X.K true):=by
 intro pins s σ H x y v u Q I rx ry h
 obtain⟨p,xs,rfl,hq,fx,fs,q⟩:=h
 cases ry
 rcases hq with hq|hq
 ·obtain⟨its,r,pl,hz⟩:=I.list hq
  refine SeqAt.notIn_listAt (v9 x) pl.isList (λ w hw=>jZ rx fx r fs w (by simpa using hw)) ⟨.bl _,H,I,rfl,?_⟩
  rw[show its.toArray.any (v9 x)=its.any (v9 x) by simp,mO r fs]
  exact q
 ·obtain⟨its,r,pl,hz⟩:=I.tuple hq
  refine SeqAt.notIn_tupleAt (v9 x) pl (λ w hw=>jZ rx fx r fs w (by simpa using hw)) ⟨.bl _,H,I,rfl,?_⟩
  rw[show its.toArray.any (v9 x)=its.any (v9 x) by simp,mO r fs]
  exact q
theorem tf:dP X (.builtin "len") (λ xs H Q=>∃ p ys,xs=[.ref p]/\(fB X.K H p ys∨hW X.K H p ys)/\Q (.int ys.length) H):=by
 intro pins s σ H xs us Q I r h
 obtain⟨p,ys,rfl,hq,q⟩:=h
 obtain⟨u,rfl,rx⟩:=vals1 r
 cases rx
 have hn:=j_
 rcases hq with hq|hq
 ·obtain⟨its,r',pl,hz⟩:=I.list hq
  have hlen:=r'.length
  exact Calls.call_len_list pl.isList (by simp only[List.size_toArray]<;>omega) ⟨.int ys.length,H,I.tok _,⟨s.toks+1,by rw[List.size_toArray,hlen]⟩,q⟩
 ·obtain⟨its,r',pl,hz⟩:=I.tuple hq
  have hlen:=r'.length
  exact len_tuple pl (by simp only[List.size_toArray]<;>omega) ⟨.int ys.length,H,I.tok _,⟨s.toks+1,by rw[List.size_toArray,hlen]⟩,q⟩
theorem s_:dP X (.builtin "len") (λ xs H Q=>∃ z,xs=[.str z]/\z.length<=sizeLine/\Q (.int z.length) H):=by
 intro pins s σ H xs us Q I r h
 obtain⟨z,rfl,hz,q⟩:=h
 obtain⟨u,rfl,t,rfl⟩:=vals1 r
 have hn:=j_
 exact len_str (by omega) ⟨.int z.length,H,I.tok _,⟨_,rfl⟩,q⟩
theorem sZ:dP X (.type "list") (λ xs H Q=>∃ p ys,xs=[.ref p]/\(fB X.K H p ys∨hW X.K H p ys)/\∀ l,H l=none->Q (.ref l) (upd H l (.lst ys))):=by
 intro pins s σ H xs us Q I r h
 obtain⟨p,ys,rfl,hq,q⟩:=h
 obtain⟨u,rfl,rx⟩:=vals1 r
 cases rx
 have fin:∀ (its:List Value),Vals ys its->ys.length<=sizeLine->∀ (h':Heap) (c':Nat),(∀ b o',s.heap.get? b=some o'->h'.get? b=some o')->
   h'.get? s.heap.objs.size=some { cls:=.type "list",dict:=none,data:=.seq its.toArray c',slots:=#[] }->EP X pins σ Q (.ref s.heap.objs.size) { s with heap:=h' }:=λ its r' hz h' c' kp e=>
  ⟨.ref s.heap.objs.size,_,I.laid (t':=s.toks) kp (Nat.le_refl _) (show bP X.prog X.w _ h' _ (.lst ys) from⟨hz,its,c',r',e⟩),rfl,q _ (I.aX.fresh (Nat.le_refl _))⟩
 rcases hq with hq|hq
 ·obtain⟨its,r',pl,hz⟩:=I.list hq
  have hlen:=r'.length
  obtain⟨o,ho,hc,n,hd⟩:=pl.isList
  exact call_list_seq p (.inl rfl) ho hc hd (λ h' c' kp e=>fin its r' hz h' c' kp e) (by simp only[List.size_toArray]<;>omega)
 ·obtain⟨its,r',pl,hz⟩:=I.tuple hq
  have hlen:=r'.length
  obtain⟨o,ho,hc,n,hd⟩:=pl
  exact call_list_seq p (.inr rfl) ho hc hd (λ h' c' kp e=>fin its r' hz h' c' kp e) (by simp only[List.size_toArray]<;>omega)
def Na (K:PySem.W.Frag)(T:String)(x:V)(H:Hp):Prop:=match x with
 | .str _=>T="str"
 | .int _=>T="int"
 | .ref p=>(T="list"/\∃ xs,fB K H p xs)∨(T="tuple"/\∃ o,K.lookup p=some o/\o.cls=.type "tuple"/\o.dict=none)∨
   (T="dict"/\((∃ kvs,H p=some (.dK kvs))∨∃ kvs,H p=some (.dT kvs)))∨(T="set"/\∃ S n,H p=some (.set S n))
 | _=>False
theorem vj {pins:List (Addr × Obj)}{σ:St}{H:Hp}{s:Shared}{T:String}{x:V}{v:Value}(I:Inv X pins σ H s)(r:RelV x v)(ty:Na X.K T x H) :
  s.TypeIs v T/\∀ a,v=.ref a->∃ ob,s.heap.get? a=some ob/\ob.dict=none:=by
 cases x with
 | str z=>
  obtain⟨t,rfl⟩:=r
  cases (show T="str" from ty)
  exact⟨typeIs_str s z t,λ _ e=>nomatch e⟩
 | int i=>
  obtain⟨t,rfl⟩:=r
  cases (show T="int" from ty)
  exact⟨typeIs_int s i t,λ _ e=>nomatch e⟩
 | ref p=>
  cases r
  rcases ty with⟨rfl,xs,hq⟩|⟨rfl,o,hk,hc,hd⟩|⟨rfl,hk⟩|⟨rfl,S,n,hk⟩
  ·obtain⟨its,_,pl,_⟩:=I.list hq
   refine⟨pl.isList.typeIs,λ a e=>?_⟩
   cases e
   obtain⟨o,n,e,c,hd,_⟩:=pl
   exact⟨o,e,hd⟩
  ·refine⟨⟨o,I.jl p o hk,hc⟩,λ a e=>?_⟩
   cases e
   exact⟨o,I.jl _ o hk,hd⟩
  ·have z:∃ o,s.heap.get? p=some o/\o.ExactDict:=by
    rcases hk with⟨kvs,hk⟩|⟨kvs,hk⟩
    ·obtain⟨_,_,_,_,o,_,_,e,ex,_⟩:=I.aX p _ hk
     exact⟨o,e,ex⟩
    ·obtain⟨_,_,_,_,o,_,_,e,ex,_⟩:=I.aX p _ hk
     exact⟨o,e,ex⟩
   obtain⟨o,e,ex⟩:=z
   refine⟨⟨o,e,ex.1⟩,λ a e2=>?_⟩
   cases e2
   exact⟨o,e,ex.2.1⟩
  ·obtain⟨o,_,_,_,e,ex,_⟩:=I.aX p _ hk
   refine⟨⟨o,e,ex.1⟩,λ a e2=>?_⟩
   cases e2
   exact⟨o,e,ex.2.1⟩
 | _=>exact False.elim ty
def N9 (K:PySem.W.Frag)(T:String)(r:V->List V->Hp->VK->Prop)(to:TE):TE:=λ σ H Q=>to σ H λ x H1=>Na K T x H1/\r x [] H1 Q
def N_ (K:PySem.W.Frag)(T:String)(r:V->List V->Hp->VK->Prop)(to:TE)(t:TA):TE:=λ σ H Q=>to σ H λ x H1=>Na K T x H1/\t σ H1 λ xs H2=>r x xs H2 Q
variable {o e:Expr}{es:List Expr}{to:TE}{t:TA}{name:Str}{apos bE:Pos}{T id:String}{r:V->List V->Hp->VK->Prop}
theorem Hl (pa:PlainAttrs T)(slot:Slot T name id)(EL:typeOf (.builtin id)=pure (.type "method_descriptor")) (hm:Cy X id r)(ho:PE X o to)
  (kj:attributeBase o name X.env (eval o X.env)=eval o X.env:=by rfl) (ki:(apos.endLine == bE.line)=true:=by rfl):PE X (.Call (.Attribute o name apos) [] [] bE) (N9 X.K T r to):=by
 intro pins s σ H Q I h
 refine wpAny_Call_method0_late kj ki (bI (ho pins s σ H _ I h) λ v s1 ⟨x,H1,I1,r1,ty,q1⟩=>?_)
 obtain⟨h1,h2⟩:=vj I1 r1 ty
 exact⟨T,id,pa,slot,EL,h1,h2,Calls.callWith_builtin rfl (PySem.evalArgs_none (hm pins s1 σ H1 x [] v [] Q I1 r1 .nil q1))⟩
theorem Ku (pa:PlainAttrs T)(slot:Slot T name id)(EL:typeOf (.builtin id)=pure (.type "method_descriptor")) (hm:Cy X id r)(ho:PE X o to)(ha:PA X (e :: es) t)
  (kj:attributeBase o name X.env (eval o X.env)=eval o X.env:=by rfl)
  (vX:((backTo bE (starEach (e :: es) X.env)).all (λ x=>!x.1) && (backToKw bE (keywordEach [] X.env)).all (λ x=>x.1.isSome)
   && decide ((e :: es).length+([]:List Keyword).length+(if ([]:List Keyword).isEmpty then 0 else 1) < 30))=true:=by rfl)
  (ki:(apos.endLine == bE.line)=true:=by rfl) (hs:starEach (e :: es) X.env=(false,eval e X.env) :: starEach es X.env:=by rfl) (lM:(backTo bE (starEach es X.env)).any (·.1)=false:=by rfl) :
  PE X (.Call (.Attribute o name apos) (e :: es) [] bE) (N_ X.K T r to t):=by
 intro pins s σ H Q I h
 refine wpAny_Call_method_late kj vX ki rfl (bI (ho pins s σ H _ I h) λ v s1 ⟨x,H1,I1,r1,ty,q1⟩=>?_)
 obtain⟨h1,h2⟩:=vj I1 r1 ty
 refine⟨T,id,pa,slot,EL,h1,h2,?_⟩
 have hA:=ha bE pins s1 σ H1 _ I1 q1
 rw[hs]at hA ⊢
 refine Calls.callWith_builtin (by show(false || (backTo bE (starEach es X.env)).any (·.1))=false;rw[lM]<;>rfl) (Calls.evalArgs_plain ?_)
 exact bI hA λ us s2 ⟨vs,H2,I2,r2,q2⟩=>hm pins s2 σ H2 x vs v us Q I2 r1 r2 q2
end
end L2
namespace L2
open PySem PySem.Spec PyProof.Rows
def Qf (X:Cx)(id:String)(r:V->List V->Hp->VK->Prop):Prop:=
 ∀ (pins:List (Addr × Obj)) (s:Shared) (σ:St) (H:Hp) (x:V) (xs:List V) (v:Value) (us:List Value) (Q:VK),Inv X pins σ H s->RelV x v->Vals xs us->r x xs H Q->
  wpAny (model X.prog X.w) X.A (call (.builtin id) (v :: us)) (EP X pins σ Q) X.xe s
theorem Vals.one:∀ {x:V}{us:List Value},Vals [x] us->∃ u,us=[u]/\RelV x u
 | _,_,.cons r .nil=>⟨_,rfl,r⟩
theorem Vals.eraseIdx:∀ {xs:List V}{us:List Value}(i:Nat),Vals xs us->Vals (xs.eraseIdx i) (us.eraseIdx i)
 | _,_,_,.nil=>.nil
 | _,_,0,.cons _ t=>t
 | _,_,i+1,.cons r t=>.cons r (Vals.eraseIdx i t)
theorem qZ {α:Type}:∀ (l:List α) (i:Nat),(l.eraseIdx i).length<=l.length
 | [],_=>Nat.le_refl _
 | _ :: _,0=>Nat.le_succ _
 | _ :: r,i+1=>Nat.succ_le_succ (qZ r i)
section
variable {X:Cx}{pins:List (Addr × Obj)}{σ:St}{H:Hp}{s:Shared}{l b:Addr}{xs ys zs:List V}
theorem Inv.Iq {its its':List Value}{n:Nat}{f:Array Value->Array Value}{t':Nat}(I:Inv X pins σ H s)(hH:H l=some (.lst xs))
  (e:s.heap.get? l=some { cls:=.type "list",data:=.seq its.toArray n }) (hf:f its.toArray=its'.toArray) (hv:Vals ys its') (hz:ys.length<=sizeLine) :
  Inv X pins σ (upd H l (.lst ys)) { s with heap:=s.heap.update l (Obj.mapSeq f),toks:=t' }:=by
 have q:=PySem.IsL.update e f
 rw[hf]at q
 refine I.write (x:=l) (e:=l) (by rw[hH];exact trivial) (.inl rfl) (λ b' u hb hu=>(Heap.get?_update_other s.heap (Obj.mapSeq f) (Ne.symm hb)).trans hu) ⟨_,q⟩ ?_
 exact⟨hz,its',_,hv,q⟩
theorem Inv.Iu {its:List Value}{t':Nat}(I:Inv X pins σ H s)(hv:Vals ys its)(hz:ys.length<=sizeLine) :
  Inv X pins σ (upd H s.heap.objs.size (.lst ys)) { s with heap:=s.heap.push { cls:=.type "list",data:=.seq its.toArray },toks:=t' }:=
 I.laid (λ _ _ q=>Heap.get?_push_of_some _ q) (Nat.le_refl _) ⟨hz,its,0,hv,Heap.get?_push_size _ rfl⟩
theorem Inv.fresh (I:Inv X pins σ H s):H s.heap.objs.size=none:=I.aX.fresh (Nat.le_refl _)
theorem Inv.vS (I:Inv X pins σ H s)(hH:H l=some (.lst xs)):xs.length<=sizeLine/\∃ (its:List Value) (n:Nat),Vals xs its/\xs.length=its.length/\s.heap.get? l=some { cls:=.type "list",data:=.seq its.toArray n }:=by
 obtain⟨z,its,n,r,e⟩:=I.aX l _ hH
 exact⟨z,its,n,r,r.length,e⟩
theorem Au {n:Nat}(h:n<=sizeLine):Builtin.List.listTooLong n=false:=by
 unfold Builtin.List.listTooLong
 exact decide_eq_false (by omega)
end
section
variable {X:Cx}
def Dc:V->List V->Hp->VK->Prop:=λ x vs H Q=>∃ l xs y,x=.ref l/\vs=[y]/\H l=some (.lst xs)/\xs.length < sizeLine/\Q .aC (upd H l (.lst (xs++[y])))
theorem qW:Qf X "list.append" Dc:=by
 intro pins s σ H x vs v us Q I rx rv h
 obtain⟨l,xs,y,rfl,rfl,hH,hz,q⟩:=h
 cases rx
 obtain⟨u,rfl,ru⟩:=rv.one
 obtain⟨z,its,n,r,hl,e⟩:=I.vS hH
 refine call_meets F.slot_list_append ⟨_,e,rfl⟩ F.entry_list_append (F.args_list_append_2 _ _) (PySem.list_append l its.toArray n u (by rw[List.size_toArray];omega)) ⟨e,?_⟩
 refine⟨.aC,_,I.Iq (its':=its++[u]) hH e (by simp) (r.append (.cons ru .nil)) ?_,rfl,q⟩
 rw[List.length_append,List.length_singleton]
 omega
def C_:V->List V->Hp->VK->Prop:=λ x vs H Q=>∃ l b xs zs,x=.ref l/\vs=[.ref b]/\H l=some (.lst xs)/\H b=some (.lst zs)/\xs.length+zs.length<=sizeLine/\Q .aC (upd H l (.lst (xs++zs)))
theorem Jw:Qf X "list.extend" C_:=by
 intro pins s σ H x vs v us Q I rx rv h
 obtain⟨l,b,xs,zs,rfl,rfl,hH,hB,hz,q⟩:=h
 cases rx
 obtain⟨u,rfl,ru⟩:=rv.one
 cases ru
 obtain⟨z,its,n,r,hl,e⟩:=I.vS hH
 obtain⟨z2,dm,n2,r2,sN,e2⟩:=I.vS hB
 have hsz:its.toArray.size+dm.toArray.size<=sizeLine:=by rw[List.size_toArray,List.size_toArray];omega
 have LG:¬ (!its.toArray.isEmpty && Builtin.List.listTooLong (its.toArray.size+dm.toArray.size))=true:=by
  rw[Au hsz,Bool.and_false]
  exact Bool.false_ne_true
 refine call_meets F.slot_list_extend ⟨_,e,rfl⟩ F.entry_list_extend (F.args_list_extend_2 _ _)
  (AutoSeq1.list_extend_list_list_0 l its.toArray n b dm.toArray n2 LG (by rw[List.size_toArray];omega) (by omega)) ⟨e,e2,?_⟩
 refine⟨.aC,_,I.Iq (its':=its++dm) hH e (by simp) (r.append r2) ?_,rfl,q⟩
 rw[List.length_append]
 omega
def GV:V->List V->Hp->VK->Prop:=λ x vs H Q=>∃ l xs i k y,x=.ref l/\vs=[.int i]/\H l=some (.lst xs)/\-(2 ^ 63)<=i/\i < 2 ^ 63/\seqIndex? i xs.length=some k/\xs[k]? = some y/\Q y (upd H l (.lst (xs.eraseIdx k)))
theorem AK:Qf X "list.pop" GV:=by
 intro pins s σ H x vs v us Q I rx rv h
 obtain⟨l,xs,i,k,y,rfl,rfl,hH,h1,h2,hk,hy,q⟩:=h
 cases rx
 obtain⟨u,rfl,ru⟩:=rv.one
 obtain⟨t,rfl⟩:=ru
 obtain⟨z,its,n,r,hl,e⟩:=I.vS hH
 obtain⟨w,hw,se⟩:=r.get hy
 refine call_meets F.slot_list_pop ⟨_,e,rfl⟩ F.entry_list_pop (F.args_list_pop_2 _ _)
  (MeetsSeq.list_pop_at l its.toArray n i t k w (fitsIndex_both h1 h2) (by rw[List.size_toArray,<-hl];exact hk) (by rw[<-Array.getElem?_toList];exact hw) (by rw[List.size_toArray];omega)) ⟨e,?_⟩
 refine⟨y,_,I.Iq (its':=its.eraseIdx k) hH e ?_ (r.eraseIdx k) ?_,se,q⟩
 ·show its.toArray.eraseIdxIfInBounds k=(its.eraseIdx k).toArray
  rw[List.eraseIdxIfInBounds_toArray]
 ·have:=qZ xs k
  omega
def Ou:R2:=λ x y H Q=>∃ l b xs zs,x=.ref l/\y=.ref b/\H l=some (.lst xs)/\H b=some (.lst zs)/\xs.length+zs.length<=sizeLine/\∀ p,H p=none->Q (.ref p) (upd H p (.lst (xs++zs)))
theorem Ht:iC X (binaryOp .Add) Ou:=by
 intro pins s σ H x y v u Q I rx ry h
 obtain⟨l,b,xs,zs,rfl,rfl,hH,hB,hz,q⟩:=h
 cases rx
 cases ry
 obtain⟨z,its,n,r,hl,e⟩:=I.vS hH
 obtain⟨z2,dm,n2,r2,sN,e2⟩:=I.vS hB
 refine PySem.P.add_list e e2 ?_ (by rw[List.size_toArray,List.size_toArray];omega)
 have ea:its.toArray++dm.toArray=(its++dm).toArray:=by simp
 rw[ea]
 exact⟨.ref _,_,I.Iu (t':=s.toks) (r.append r2) (by rw[List.length_append];omega),rfl,q _ I.fresh⟩
end
section
variable {prog:Program}{w:World}{A:Around}{E:Value->Shared->Prop}{s:Shared}
end
section
variable {X:Cx}
end
end L2
namespace L2
open PySem PySem.Spec PyProof.Rows
section
variable {κ:Type} [DecidableEq κ]
def gR (kvs:List (κ × V)) (k:κ):Option V:=(kvs.find? λ kv=>decide (kv.1=k)).map (·.2)
def putK (kvs:List (κ × V)) (k:κ)(v:V):List (κ × V):=
 if (kvs.any λ kv=>decide (kv.1=k))=true then kvs.map (λ kv=>if kv.1=k then (kv.1,v) else kv) else kvs++[(k,v)]
theorem jM {p:κ × V}{r:List (κ × V)}{k:κ}(e:p.1=k):gR (p :: r) k=some p.2:=by simp[gR,List.find?_cons,e]
theorem jN {p:κ × V}{r:List (κ × V)}{k:κ}(e:¬ p.1=k):gR (p :: r) k=gR r k:=by simp[gR,List.find?_cons,e]
theorem tY (k:κ):∀ kvs:List (κ × V),(kvs.any λ kv=>decide (kv.1=k))=(gR kvs k).isSome
 | []=>rfl
 | p :: r=>by
  rw[List.any_cons]
  by_cases e:p.1=k
  ·simp only[jM e,decide_eq_true e,Bool.true_or,Option.isSome_some]
  ·rw[jN e,decide_eq_false e,Bool.false_or];exact tY k r
theorem j' (kvs:List (κ × V)) (k:κ)(v:V):(putK kvs k v).length<=kvs.length+1:=by
 unfold putK
 split
 ·rw[List.length_map];omega
 ·rw[List.length_append,List.length_cons,List.length_nil];omega
theorem jH.iY {o:Option V}{u:Option Value}(r:jH o u):o.isSome=u.isSome:=by
 cases o with
 | none=>cases u with
  | none=>rfl
  | some _=>exact(show False from r).elim
 | some _=>cases u with
  | none=>exact(show False from r).elim
  | some _=>rfl
theorem jH.getD {o:Option V}{u:Option Value}{d:V}{d':Value}(r:jH o u)(rd:RelV d d'):RelV (o.getD d) (u.getD d'):=by
 cases o with
 | none=>cases u with
  | none=>exact rd
  | some _=>exact(show False from r).elim
 | some _=>cases u with
  | none=>exact(show False from r).elim
  | some _=>exact r
theorem KV.val {kvs:List (κ × V)}{vs:List (κ × Value)}(r:KV kvs vs)(k:κ):jH (gR kvs k) (valueAt vs k):=by
 unfold KV at r
 induction r with
 | nil=>exact True.intro
 | @cons p q ps qs h t ih=>
  obtain⟨h1,h2⟩:=h
  by_cases e:p.1=k
  ·have e':q.1=k:=h1.symm.trans e
   have b:valueAt (q :: qs) k=some q.2:=by simp[valueAt,List.find?_cons,e']
   rw[jM e,b];exact h2
  ·have e':¬ q.1=k:=λ z=>e (h1.trans z)
   have b:valueAt (q :: qs) k=valueAt qs k:=by simp[valueAt,List.find?_cons,e']
   rw[jN e,b];exact ih
theorem KV.any {kvs:List (κ × V)}{vs:List (κ × Value)}(r:KV kvs vs)(k:κ):(kvs.any λ kv=>decide (kv.1=k))=vs.any λ kv=>decide (kv.1=k):=by
 unfold KV at r
 induction r with
 | nil=>rfl
 | cons h t ih=>rw[List.any_cons,List.any_cons,ih,h.1]
theorem KV.GQ {kvs:List (κ × V)}{vs:List (κ × Value)}(r:KV kvs vs)(k:κ){y:V}{u:Value}(ry:RelV y u) :
  KV (kvs.map λ kv=>if kv.1=k then (kv.1,y) else kv) (vs.map λ kv=>if kv.1=k then (kv.1,u) else kv):=by
 unfold KV at r ⊢
 induction r with
 | nil=>exact .nil
 | @cons p q ps qs h t ih=>
  rw[List.map_cons,List.map_cons]
  refine .cons ?_ ih
  obtain⟨h1,h2⟩:=h
  by_cases e:p.1=k
  ·rw[if_pos e,if_pos (h1.symm.trans e)];exact⟨h1,ry⟩
  ·rw[if_neg e,if_neg (λ z=>e (h1.trans z))];exact⟨h1,h2⟩
theorem KV.put {kvs:List (κ × V)}{vs:List (κ × Value)}(r:KV kvs vs)(k:κ){y:V}{u:Value}(ry:RelV y u):KV (putK kvs k y) (stored vs k u):=by
 unfold putK stored
 rw[r.any k]
 by_cases e:(vs.any λ kv=>decide (kv.1=k))=true
 ·rw[if_pos e,if_pos e];exact r.GQ k ry
 ·rw[if_neg e,if_neg e];exact Paired.snoc r ⟨rfl,ry⟩
theorem KV.length {kvs:List (κ × V)}{vs:List (κ × Value)}(r:KV kvs vs):kvs.length=vs.length:=Paired.length r
end
theorem nR {P:Program}{w:World}{k:Key}{u:Value}(r:RelV (kV k) u):(bx P w).is k u=true:=by
 cases k with
 | inl i=>obtain⟨t,e⟩:=(show ∃ t,u=Value.int i t from r);subst e;exact ux P w i t
 | inr x=>obtain⟨t,e⟩:=(show ∃ t,u=Value.str x t from r);subst e;exact uw P w x t
theorem rh {P:Program}{w:World}:∀ {ks:List Key}{us:List Value},Vals (ks.map kV) us->ItemsAre (bx P w) ks us
 | [],_,r=>by rw[List.map_nil]at r;cases r;exact .nil
 | k :: ks,_,r=>by
  rw[List.map_cons]at r
  cases r with
  | cons h t=>exact .cons (nR h) (rh t)
abbrev KT (H:Hp):List (List Key × V)->List (List Key × Addr × Value)->Prop:=Paired λ p q=>p.1=q.1/\H q.2.1=some (.tup (p.1.map kV))/\RelV p.2 q.2.2
theorem KT.val {H:Hp}{kvs:List (List Key × V)}{xs:List (List Key × Addr × Value)}(r:KT H kvs xs)(k:List Key):jH (gR kvs k) ((atKey xs k).map (·.2)):=by
 induction r with
 | nil=>exact True.intro
 | @cons p q ps qs h t ih=>
  obtain⟨h1,_,h2⟩:=h
  by_cases e:p.1=k
  ·have e':q.1=k:=h1.symm.trans e
   have b:atKey (q :: qs) k=some q.2:=by simp[atKey,List.find?_cons,e']
   rw[jM e,b];exact h2
  ·have e':¬ q.1=k:=λ z=>e (h1.trans z)
   have b:atKey (q :: qs) k=atKey qs k:=by simp[atKey,List.find?_cons,e']
   rw[jN e,b];exact ih
theorem KT.GQ {H:Hp}{kvs:List (List Key × V)}{xs:List (List Key × Addr × Value)}(r:KT H kvs xs)(k:List Key){y:V}{u:Value}(ry:RelV y u) :
  KT H (kvs.map λ kv=>if kv.1=k then (kv.1,y) else kv) (xs.map (putAt k u)):=by
 induction r with
 | nil=>exact .nil
 | @cons p q ps qs h t ih=>
  rw[List.map_cons,List.map_cons]
  refine .cons ?_ ih
  obtain⟨h1,h2,h3⟩:=h
  unfold putAt
  by_cases e:p.1=k
  ·rw[if_pos e,if_pos (h1.symm.trans e)];exact⟨h1,h2,ry⟩
  ·rw[if_neg e,if_neg (λ z=>e (h1.trans z))];exact⟨h1,h2,h3⟩
theorem KT.put {H:Hp}{kvs:List (List Key × V)}{xs:List (List Key × Addr × Value)}(r:KT H kvs xs)(k:List Key){b:Addr}{y:V}{u:Value}(hb:H b=some (.tup (k.map kV))) (ry:RelV y u) :
  KT H (putK kvs k y) (storedH xs k b u):=by
 have e:(kvs.any λ kv=>decide (kv.1=k))=(atKey xs k).isSome:=by
  rw[tY,(r.val k).iY,Option.isSome_map]
 unfold putK storedH
 rw[e]
 by_cases q:(atKey xs k).isSome=true
 ·rw[if_pos q,if_pos q];exact r.GQ k ry
 ·rw[if_neg q,if_neg q];exact Paired.snoc r ⟨rfl,hb,ry⟩
theorem KT.keeps {H H':Hp}{kvs:List (List Key × V)}{xs:List (List Key × Addr × Value)}(r:KT H kvs xs)(ht:∀ b ys,H b=some (.tup ys)->H' b=some (.tup ys)):KT H' kvs xs:=
 Paired.Io r λ _ _ z=>⟨z.1,ht _ _ z.2.1,z.2.2⟩
section
variable {P:Program}{w:World}{H:Hp}{h:Heap}{a:Addr}
theorem FF {u:HO}(ok:jI P w H h)(e:Rd H a u):bP P w H h a u:=e.ok ok
theorem nX {kvs:List (Key × V)}(ok:jI P w H h)(e:Rd H a (.dK kvs)):kvs.length<=sizeLine/\(a == sysModules)=false/\∃ vs,KV kvs vs/\h.DictOf (bx P w) a vs:=
 show bP P w H h a (.dK kvs) from FF ok e
theorem uS {kvs:List (Key × V)}(ok:jI P w H h)(e:H a=some (.dK kvs)):kvs.length<=sizeLine/\(a == sysModules)=false/\∃ vs,KV kvs vs/\h.DictOf (bx P w) a vs:=nX ok (.inl e)
theorem lL {ks:List Key}(ok:jI P w H h)(e:H a=some (.tup (ks.map kV))):(tupleKind (bx P w)).is h ks a:=by
 obtain⟨_,its,r,o,h1,h2,n,h3⟩:=(show bP P w H h a (.tup (ks.map kV)) from ok a _ e)
 exact⟨o,its.toArray,n,h1,h2,h3,by simpa using rh r⟩
theorem nW {kvs:List (List Key × V)}(ok:jI P w H h)(e:Rd H a (.dT kvs)):kvs.length<=sizeLine/\(a == sysModules)=false/\
  ∃ xs,KT H kvs xs/\h.DictOfH (tupleKind (bx P w)) a xs:=by
 obtain⟨z,y,xs,r,o,es,ep,h1,h2,h3,h4,h5⟩:=(show bP P w H h a (.dT kvs) from FF ok e)
 refine⟨z,y,xs,r,o,es,ep,h1,h2,h3,h4,λ x hx=>?_,h5⟩
 have all:∀ {l:List (List Key × V)}{m:List (List Key × Addr × Value)},KT H l m->∀ x∈m,(tupleKind (bx P w)).is h x.1 x.2.1:=by
  intro l m q
  induction q with
  | nil=>intro x hx;exact nomatch hx
  | @cons p q ps qs hq t ih=>
   intro x hx
   rcases List.mem_cons.mp hx with e|hx
   ·subst e
    exact lL ok (by rw[<-hq.1];exact hq.2.1)
   ·exact ih x hx
 exact all r x hx
theorem Me {kvs:List (List Key × V)}(ok:jI P w H h)(e:H a=some (.dT kvs)):kvs.length<=sizeLine/\(a == sysModules)=false/\
  ∃ xs,KT H kvs xs/\h.DictOfH (tupleKind (bx P w)) a xs:=nW ok (.inl e)
end
def jA (H:Hp)(a:Addr)(y:V)(r:Option V):Prop:=
 (∃ kvs k,Rd H a (.dK kvs)/\y=kV k/\r=gR kvs k)∨∃ kvs k b,Rd H a (.dT kvs)/\y=.ref b/\H b=some (.tup (k.map kV))/\r=gR kvs k
def wt (H:Hp)(a:Addr)(y v:V)(H':Hp):Prop:=
 (∃ kvs k,H a=some (.dK kvs)/\y=kV k/\kvs.length < sizeLine/\H'=upd H a (.dK (putK kvs k v)))∨
 ∃ kvs k b,H a=some (.dT kvs)/\y=.ref b/\H b=some (.tup (k.map kV))/\kvs.length < sizeLine/\H'=upd H a (.dT (putK kvs k v))
theorem jA.k {H:Hp}{a:Addr}{kvs:List (Key × V)}{k:Key}(e:H a=some (.dK kvs)):jA H a (kV k) (gR kvs k):=.inl ⟨kvs,k,.inl e,rfl,rfl⟩
theorem wt.k {H:Hp}{a:Addr}{kvs:List (Key × V)}{k:Key}{v:V}(e:H a=some (.dK kvs)) (hl:kvs.length < sizeLine):wt H a (kV k) v (upd H a (.dK (putK kvs k v))):=.inl ⟨kvs,k,e,rfl,hl,rfl⟩
section
variable {X:Cx}{pins:List (Addr × Obj)}{σ:St}{H:Hp}{s:Shared}{a:Addr}{y v:V}{u r:Value}{o:Option V}{A:Around}{E:Value->Shared->Prop}
theorem Inv.big (I:Inv X pins σ H s):sysModules < s.heap.objs.size:=by
 have h:mainGlobals < s.heap.objs.size:=(I.mod.glob.keeps I.bk).lt
 exact Nat.lt_trans (by decide) h
theorem yE {Q:Value->Shared->Prop}(hu:A.units+1 < cLine)(I:Inv X pins σ H s)(g:jA H a y (some v)) (ry:RelV y u)(h:∀ w' s',Inv X pins σ H s'->RelV v w'->Q w' s') :
  wpAny (model X.prog X.w) A (getItem (.ref a) u) Q E s:=by
 rcases g with⟨kvs,k,e,ey,l⟩|⟨kvs,k,b,e,ey,eb,l⟩
 ·subst ey
  obtain⟨z,hd,vs,rel,dd⟩:=nX I.aX e
  obtain⟨w',hw,se⟩:=jH.some_of (v:=v) (o:=valueAt vs k) (by rw[l];exact rel.val k)
  exact wpAny_getItem_of (nR ry) dd.mapOf hw (h w' _ (I.tok _) se)
 ·subst ey
  cases (show u=Value.ref b from ry)
  obtain⟨z,hd,xs,rel,dd⟩:=nW I.aX e
  obtain⟨w',hw,se⟩:=jH.some_of (v:=v) (o:=(atKey xs k).map (·.2)) (by rw[l];exact rel.val k)
  obtain⟨p,hp,Sh⟩:=Option.map_eq_some_iff.mp hw
  refine wpAny_getItem_heap (tupleKind_room_in1 hu) (lL I.aX eb) dd hp ?_
  rw[Sh]
  exact h w' _ (I.tok _) se
theorem Mg {Q:Value->Shared->Prop}(hu:A.units+1 < cLine)(I:Inv X pins σ H s)(g:jA H a y o)(ry:RelV y u)(h:∀ s',Inv X pins σ H s'->Q (.bool o.isSome) s') :
  wpAny (model X.prog X.w) A (compareOp .In u (.ref a)) Q E s:=by
 rcases g with⟨kvs,k,e,ey,l⟩|⟨kvs,k,b,e,ey,eb,l⟩
 ·subst ey
  obtain⟨z,hd,vs,rel,dd⟩:=nX I.aX e
  refine wpAny_in_of (nR ry) hd dd.mapOf ?_
  rw[<-(rel.val k).iY,<-l]
  exact h _ (I.tok _)
 ·subst ey
  cases (show u=Value.ref b from ry)
  obtain⟨z,hd,xs,rel,dd⟩:=nW I.aX e
  refine wpAny_in_heap (tupleKind_room_in1 hu) (lL I.aX eb) hd dd ?_
  have q:=(rel.val k).iY
  rw[Option.isSome_map]at q
  rw[<-q,<-l]
  exact h _ (I.tok _)
theorem Fd {Q:Value->Shared->Prop}(hu:A.units+1 < cLine)(I:Inv X pins σ H s)(g:jA H a y o)(ry:RelV y u)(h:∀ s',Inv X pins σ H s'->Q (.bool (!o.isSome)) s') :
  wpAny (model X.prog X.w) A (compareOp .NotIn u (.ref a)) Q E s:=by
 rcases g with⟨kvs,k,e,ey,l⟩|⟨kvs,k,b,e,ey,eb,l⟩
 ·subst ey
  obtain⟨z,hd,vs,rel,dd⟩:=nX I.aX e
  refine wpAny_notIn_of (nR ry) hd dd.mapOf ?_
  rw[<-(rel.val k).iY,<-l]
  exact h _ (I.tok _)
 ·subst ey
  cases (show u=Value.ref b from ry)
  obtain⟨z,hd,xs,rel,dd⟩:=nW I.aX e
  refine wpAny_notIn_heap (tupleKind_room_in1 hu) (lL I.aX eb) hd dd ?_
  have q:=(rel.val k).iY
  rw[Option.isSome_map]at q
  rw[<-q,<-l]
  exact h _ (I.tok _)
theorem sX {h':Heap}{t':Nat}{ob:HO}(I:Inv X pins σ H s)(mu:JJ (H a)) (hs:Heap.SameBut a s.heap h')(he:∃ q,h'.get? a=some q)(new:bP X.prog X.w (upd H a ob) h' a ob) :
  Inv X pins σ (upd H a ob) { s with heap:=h',toks:=t' }:=
 I.write (x:=a) (e:=a) mu (.inl rfl) (λ b q hb z=>(hs.2 b hb).trans z) he new
theorem BQ {P:Program}{w:World}{H':Hp}{h':Heap}{kvs:List (Key × V)}{vs:List (Key × Value)}(z:kvs.length<=sizeLine)(hd:(a == sysModules)=false) (rel:KV kvs vs)(dd:h'.DictOf (bx P w) a vs) :
  bP P w H' h' a (.dK kvs):=⟨z,hd,vs,rel,dd⟩
theorem rE {H':Hp}{Q:Unit->Shared->Prop}(hu:A.units+1 < cLine)(I:Inv X pins σ H s)(g:wt H a y v H')(ry:RelV y u)(rv:RelV v r)(h:∀ s',Inv X pins σ H' s'->Q () s') :
  wpAny (model X.prog X.w) A (setItem (.ref a) u r) Q E s:=by
 rcases g with⟨kvs,k,e,ey,l,eH⟩|⟨kvs,k,b,e,ey,eb,l,eH⟩
 ·subst ey eH
  obtain⟨z,hd,vs,rel,dd⟩:=uS I.aX e
  have hz:vs.length<=sizeLine:=by rw[<-rel.length];exact z
  have hl:(putK kvs k v).length<=sizeLine:=by have:=j' kvs k v;omega
  refine wpAny_setItem_pairs (hsz:=hz) (nR ry) dd λ h' Jh hs=>h _ ?_
  have he:∃ q,h'.get? a=some q:=let ⟨q,_,_,hq,_⟩:=Jh;⟨q,hq⟩
  exact sX I (by rw[e];exact True.intro) hs he (BQ hl hd (rel.put k rv) Jh)
 ·subst ey eH
  cases (show u=Value.ref b from ry)
  obtain⟨z,hd,xs,rel,dd⟩:=Me I.aX e
  have hz:xs.length<=sizeLine:=by rw[<-Paired.length rel];exact z
  have hl:(putK kvs k v).length<=sizeLine:=by have:=j' kvs k v;omega
  refine wpAny_setItem_heap (hsz:=hz) (tupleKind_room_in1 hu) (lL I.aX eb) dd λ h' Jh hs=>h _ ?_
  obtain⟨q,es,ep,hq,h2,h3,h4,_,h5⟩:=Jh
  refine sX I (by rw[e];exact True.intro) hs ⟨q,hq⟩ ⟨hl,hd,_,(rel.put k eb rv).keeps λ c ys ec=>?_,q,es,ep,hq,h2,h3,h4,h5⟩
  rw[ah (pI ec e (λ z=>nomatch z))]
  exact ec
end
section
variable {X:Cx}{pins:List (Addr × Obj)}{σ:St}{H:Hp}{s:Shared}{a:Addr}{kvs:List (Key × V)}{k:Key}{u:Value}{A:Around}{E:Value->Shared->Prop}
end
def Js (i:Expr):Prop:=∀ ov iv,subscripted i false ov iv=operate [ov,iv] (getItem ov iv)
theorem CS {prog:Program}{w:World}{A:Around}{E:Value->Shared->Prop}{s:Shared}{env:Env}{value slice:Expr}{pos:Pos}{T id:String}{Q:Value->Shared->Prop}
  (hl:typeLookup (.type T) "__getitem__"=pure (some (.builtin id))) (hs:Js slice)
  (h:wpAny (model prog w) A (eval value env) (λ o s₁=>wpAny (model prog w) A (eval slice env) (λ i s₂=>s₂.TypeIs o T/\wpAny (model prog w) A (getItem o i) Q E s₂) E s₁) E s) :
  wpAny (model prog w) A (eval (.Subscript value slice pos) env) Q E s:=by
 refine Subscript_ (wpAny_mono h (λ o s₁ h₁=>wpAny_mono h₁ (λ i s₂ h₂=>?_) λ _ _ x=>x) λ _ _ x=>x)
 obtain⟨hT,h₂⟩:=h₂
 unfold subscriptTail
 refine wpAny_bind ?_
 rw[getitemInPython_of_ne hT.not_modules]
 refine wpAny_bind (wpAny_specialOf hT hl ?_)
 have fin:wpAny (model prog w) A (subscripted slice false o i) (λ r s₃=>wpAny (model prog w) A (letTemporaryGo value o r >>= λ _=>pure r) Q E s₃) E s₂:=by
  rw[hs o i]
  exact wpAny_operating (wpAny_mono h₂ (λ r s₃ h₃=>wpAny_bind (wpAny_letTemporaryGo (wpAny_pure h₃))) λ _ _ x=>x)
 first
  | exact wpAny_pure (wpAny_bind fin)
  | exact wpAny_bind (wpAny_pure (wpAny_bind fin))
  | exact wpAny_bind fin
theorem uU {X:Cx}{pins:List (Addr × Obj)}{σ:St}{H:Hp}{s:Shared}{a:Addr}{y:V}{o:Option V}(I:Inv X pins σ H s)(g:jA H a y o):s.TypeIs (.ref a) "dict":=by
 rcases g with⟨kvs,k,e,_,_⟩|⟨kvs,k,b,e,_,_,_⟩
 ·obtain⟨_,_,vs,_,dd⟩:=nX I.aX e
  exact dd.typeIs
 ·obtain⟨_,_,xs,_,dd⟩:=nW I.aX e
  exact dd.typeIs
def J9 (td ty:TE):TE:=λ σ H Q=>td σ H λ x H1=>ty σ H1 λ y H2=>∃ a v,x=.ref a/\jA H2 a y (some v)/\Q v H2
def N8 (ty td:TE):TE:=λ σ H Q=>ty σ H λ y H1=>td σ H1 λ x H2=>∃ a o,x=.ref a/\jA H2 a y o/\Q (.bl o.isSome) H2
def CP (ty td:TE):TE:=λ σ H Q=>ty σ H λ y H1=>td σ H1 λ x H2=>∃ a o,x=.ref a/\jA H2 a y o/\Q (.bl (!o.isSome)) H2
def Kc (td ty tv:TE):TS:=λ D σ H=>tv σ H λ v H1=>td σ H1 λ x H2=>ty σ H2 λ y H3=>∃ a H4,x=.ref a/\wt H3 a y v H4/\D.nx σ H4
section
variable {X:Cx}{o i e value:Expr}{pos pos' mV:Pos}{td ty tv:TE}
theorem DE (hu:X.A.units+1 < cLine)(ho:PE X o td)(hi:PE X i ty)(hs:Js i):PE X (.Subscript o i pos) (J9 td ty):=by
 intro pins s σ H Q I h
 refine CS PySem.F.slot_dict_getitem.lookup hs (bI (ho pins s σ H _ I h) λ u s1 ⟨x,H1,I1,rx,q1⟩=>bI (hi pins s1 σ H1 _ I1 q1) λ iv s2 ⟨y,H2,I2,ry,a,v,ex,g,q2⟩=>?_)
 subst ex
 obtain rfl:u=Value.ref a:=rx
 exact⟨uU I2 g,yE hu I2 g ry λ w' s3 I3 se=>⟨v,H2,I3,se,q2⟩⟩
theorem Al (hu:X.A.units+1 < cLine)(hi:PE X i ty)(ho:PE X o td):PC X .In i o (N8 ty td):=by
 intro pins s σ H Q I h
 refine bI (hi pins s σ H _ I h) λ iv s1 ⟨y,H1,I1,ry,q1⟩=>bI (ho pins s1 σ H1 _ I1 q1) λ u s2 ⟨x,H2,I2,rx,a,ov,ex,g,q2⟩=>?_
 subst ex
 obtain rfl:u=Value.ref a:=rx
 exact Mg hu I2 g ry λ s3 I3=>⟨.bl ov.isSome,H2,I3,rfl,q2⟩
theorem yd (hu:X.A.units+1 < cLine)(hi:PE X i ty)(ho:PE X o td):PC X .NotIn i o (CP ty td):=by
 intro pins s σ H Q I h
 refine bI (hi pins s σ H _ I h) λ iv s1 ⟨y,H1,I1,ry,q1⟩=>bI (ho pins s1 σ H1 _ I1 q1) λ u s2 ⟨x,H2,I2,rx,a,ov,ex,g,q2⟩=>?_
 subst ex
 obtain rfl:u=Value.ref a:=rx
 exact Fd hu I2 g ry λ s3 I3=>⟨.bl (!ov.isSome),H2,I3,rfl,q2⟩
theorem Dm (hu:X.A.units+1 < cLine)(ho:PE X o td)(hi:PE X i ty)(hv:PE X value tv)(hs:swapsWith value (some (.Subscript o i pos')) pos.line X.env=pure false) :
  PS X (.Assign [.Subscript o i pos'] value pos) (Kc td ty tv):=by
 intro pins s σ H D I h
 refine wpAny_Assign_Subscript (bI (hv pins s σ H _ I h) λ r s1 ⟨v,H1,I1,rv,q1⟩=>bI (ho pins s1 σ H1 _ I1 q1) λ u s2 ⟨x,H2,I2,rx,q2⟩=>bI (hi pins s2 σ H2 _ I2 q2) λ iv s3 ⟨y,H3,I3,ry,a,H4,ex,g,q3⟩=>?_) hs
 subst ex
 obtain rfl:u=Value.ref a:=rx
 exact rE hu I3 g ry rv λ s4 I4=>⟨σ,H4,I4,q3⟩
end
theorem uT {P:Program}{w:World}{H:Hp}(h:Heap)(hb:sysModules < h.objs.size):bP P w H (h.push { cls:=.type "dict",data:=.dict #[] }) h.objs.size (.dK []):=
 ⟨Nat.zero_le _,beq_eq_false_iff_ne.mpr (Ne.symm (Nat.ne_of_lt hb)),[],.nil,Heap.DictOf.new h⟩
def Gy:TE:=λ _ H Q=>∀ p,H p=none->Q (.ref p) (upd H p (.dK []))
section
variable {X:Cx}{pos:Pos}
theorem Ag:PE X (.Dict [] [] pos) Gy:=λ pins s σ H Q I h=>
 wpAny_Dict_empty ⟨.ref s.heap.objs.size,_,I.laid (a:=s.heap.objs.size) (o:=.dK []) (t':=s.toks) (λ _ _ q=>Heap.get?_push_of_some _ q) (Nat.le_refl _) (uT s.heap I.big),rfl,h _ (I.aX.fresh (Nat.le_refl _))⟩
end
def rS:List (TE × TE)->St->Hp->(List (V × V)->Hp->Prop)->Prop
 | [],_,H,Q=>Q [] H
 | (tk,tv) :: r,σ,H,Q=>tk σ H λ x H1=>tv σ H1 λ y H2=>rS r σ H2 λ ps H3=>Q ((x,y) :: ps) H3
abbrev VV:List (V × V)->List (Value × Value)->Prop:=Paired λ p q=>RelV p.1 q.1/\RelV p.2 q.2
def Gf (X:Cx)(pos:Pos)(keys:List (Option Expr)) (values:List Expr)(CM:List (TE × TE)):Prop:=
 ∀ (pins:List (Addr × Obj)) (s:Shared) (σ:St) (H:Hp) (Q:List (V × V)->Hp->Prop),Inv X pins σ H s->rS CM σ H Q->
  wpAny (model X.prog X.w) X.A (evalPairs (pairTrees keys values X.env pos)) (λ vs s'=>∃ ps H',Inv X pins σ H' s'/\VV ps vs/\Q ps H') X.xe s
theorem Dn {X:Cx}{pos:Pos}:Gf X pos [] [] []:=λ pins s σ H Q I h=>pairTrees_nil_walk ⟨[],H,I,.nil,h⟩
theorem zU {X:Cx}{pos:Pos}{k v:Expr}{ks:List (Option Expr)}{vs:List Expr}{tk tv:TE}{CM:List (TE × TE)}(hk:PE X k tk)(hv:PE X v tv)(hr:Gf X pos ks vs CM) :
  Gf X pos (some k :: ks) (v :: vs) ((tk,tv) :: CM):=λ pins s σ H Q I h=>
 pairTrees_cons_walk (bI (hk pins s σ H _ I h) λ u s1 ⟨x,H1,I1,rx,q1⟩=>bI (hv pins s1 σ H1 _ I1 q1) λ w2 s2 ⟨y,H2,I2,ry,q2⟩=>
  bI (hr pins s2 σ H2 _ I2 q2) λ ws s3 ⟨ps,H3,I3,rel,q3⟩=>⟨(x,y) :: ps,H3,I3,.cons ⟨rx,ry⟩ rel,q3⟩)
def fG (kvs more:List (Key × V)):List (Key × V):=more.foldl (λ acc kv=>putK acc kv.1 kv.2) kvs
theorem KV.merge:∀ {more:List (Key × V)}{rs:List (Key × Value)}{kvs:List (Key × V)}{vs:List (Key × Value)},KV more rs->KV kvs vs->KV (fG kvs more) (merged vs rs):=by
 intro more rs kvs vs r
 unfold KV at r
 induction r generalizing kvs vs with
 | nil=>intro q;exact q
 | @cons p q ps qs h t ih=>
  intro r0
  have e:KV (putK kvs p.1 p.2) (stored vs q.1 q.2):=by
   have:=r0.put p.1 h.2
   rw[<-h.1];exact this
  exact ih e
theorem lb:∀ (more kvs:List (Key × V)),(fG kvs more).length<=kvs.length+more.length
 | [],kvs=>by show kvs.length<=kvs.length+0;omega
 | p :: r,kvs=>by
  have h1:=lb r (putK kvs p.1 p.2)
  have h2:=j' kvs p.1 p.2
  show(fG (putK kvs p.1 p.2) r).length<=_
  rw[List.length_cons];omega
theorem qc {P:Program}{w:World}:∀ {kvs:List (Key × V)}{ws:List (Value × Value)},VV (kvs.map λ kv=>(kV kv.1,kv.2)) ws->∃ rs,Carries (bx P w) ws rs/\KV kvs rs
 | [],_,r=>by rw[List.map_nil]at r;cases r;exact⟨[],True.intro,.nil⟩
 | p :: kvs,_,r=>by
  rw[List.map_cons]at r
  cases r with
  | @cons a b as bs h t=>
   obtain⟨rs,c,q⟩:=qc (P:=P) (w:=w) t
   obtain⟨b1,b2⟩:=b
   exact⟨(p.1,b2) :: rs,⟨nR h.1,rfl,c⟩,.cons ⟨rfl,h.2⟩ q⟩
def J8 (CM:List (TE × TE)):TE:=λ σ H Q=>∀ p,H p=none->rS CM σ (upd H p (.dK [])) λ ps H2=>H2 p=some (.dK [])/\∃ kvs:List (Key × V),ps=kvs.map (λ kv=>(kV kv.1,kv.2))/\kvs.length<=15/\Q (.ref p) (upd H2 p (.dK (fG [] kvs)))
theorem DD {X:Cx}{pos:Pos}{keys:List (Option Expr)}{values:List Expr}{CM:List (TE × TE)}(h:Gf X pos keys values CM)(Bu:keys.all (·.isSome)=true) (hl:keys.length=values.length)(h0:keys≠[])
  (JH:keys.length<=15):PE X (.Dict keys values pos) (J8 CM):=by
 intro pins s σ H Q I q
 have hn:=I.aX.fresh (Nat.le_refl s.heap.objs.size)
 have I1:=I.laid (a:=s.heap.objs.size) (o:=.dK []) (h':=s.heap.push { cls:=.type "dict",data:=.dict #[] }) (t':=s.toks) (λ _ _ q=>Heap.get?_push_of_some _ q) (Nat.le_refl _) (uT s.heap I.big)
 refine wpAny_Dict_walk (knd:=bx X.prog X.w) Bu hl h0 JH (bI (h pins _ σ _ _ I1 (q _ hn)) λ ws s2 ⟨ps,H2,I2,rel,e,kvs,ep,lk,q2⟩=>?_)
 subst ep
 obtain⟨rs,c,rk⟩:=qc (P:=X.prog) (w:=X.w) rel
 obtain⟨z,hd,NS,r0,dd⟩:=uS I2.aX e
 cases r0
 refine⟨rs,c,dd,λ h' Jh hs=>⟨.ref s.heap.objs.size,_,?_,rfl,q2⟩⟩
 have hz:(fG [] kvs).length<=sizeLine:=by
  have h1:=lb kvs []
  rw[List.length_nil]at h1
  rw[sizeLine_eq];omega
 have he:∃ q,h'.get? s.heap.objs.size=some q:=let ⟨q,_,_,hq,_⟩:=Jh;⟨q,hq⟩
 exact sX I2 (by rw[e];exact True.intro) hs he (BQ hz hd (rk.merge .nil) Jh)
structure M1 (X:Cx)(o:Expr)(m:Str)(apos:Pos)(e:Expr)(bE:Pos):Prop where
 base:attributeBase o m X.env (eval o X.env)=eval o X.env
 PV:((backTo bE (starEach [e] X.env)).all (λ x=>!x.1) && (backToKw bE (keywordEach [] X.env)).all (λ x=>x.1.isSome)
  && decide (([e]:List Expr).length+([]:List Keyword).length+(if ([]:List Keyword).isEmpty then 0 else 1) < 30))=true
 line:(apos.endLine == bE.line)=true
 trees:backTo bE (starEach [e] X.env)=[(false,eval e X.env)]
structure M2 (X:Cx)(o:Expr)(m:Str)(apos:Pos)(e f:Expr)(bE:Pos):Prop where
 base:attributeBase o m X.env (eval o X.env)=eval o X.env
 PV:((backTo bE (starEach [e,f] X.env)).all (λ x=>!x.1) && (backToKw bE (keywordEach [] X.env)).all (λ x=>x.1.isSome)
  && decide (([e,f]:List Expr).length+([]:List Keyword).length+(if ([]:List Keyword).isEmpty then 0 else 1) < 30))=true
 line:(apos.endLine == bE.line)=true
 trees:backTo bE (starEach [e,f] X.env)=[(false,eval e X.env),(false,eval f X.env)]
def NO (H:Hp)(a:Addr):Prop:=(∃ kvs,Rd H a (.dK kvs))∨∃ kvs,Rd H a (.dT kvs)
theorem pT {X:Cx}{pins:List (Addr × Obj)}{σ:St}{H:Hp}{s:Shared}{a:Addr}(I:Inv X pins σ H s)(d:NO H a) :
  s.TypeIs (.ref a) "dict"/\(∀ b,Value.ref a=.ref b->∃ ob,s.heap.get? b=some ob/\ob.dict=none)/\(a == sysModules)=false:=by
 rcases d with⟨kvs,e⟩|⟨kvs,e⟩
 ·obtain⟨_,hd,vs,_,dd⟩:=nX I.aX e
  refine⟨dd.typeIs,λ b q=>?_,hd⟩
  cases q
  obtain⟨ob,_,_,h1,h2,_⟩:=dd
  exact⟨ob,h1,h2.2.1⟩
 ·obtain⟨_,hd,xs,_,dd⟩:=nW I.aX e
  refine⟨dd.typeIs,λ b q=>?_,hd⟩
  cases q
  obtain⟨ob,_,_,h1,h2,_⟩:=dd
  exact⟨ob,h1,h2.2.1⟩
section
variable {X:Cx}{pins:List (Addr × Obj)}{σ:St}{H:Hp}{s:Shared}{a:Addr}{y d:V}{u r:Value}{o:Option V}{A:Around}{E:Value->Shared->Prop}
theorem Jj {Q:Value->Shared->Prop}(hu:A.units+1 < cLine)(I:Inv X pins σ H s)(g:jA H a y o)(ry:RelV y u)(h:∀ w' s',Inv X pins σ H s'->RelV (o.getD .aC) w'->Q w' s') :
  wpAny (model X.prog X.w) A (call (.builtin "dict.get") [.ref a,u]) Q E s:=by
 rcases g with⟨kvs,k,e,ey,l⟩|⟨kvs,k,b,e,ey,eb,l⟩
 ·subst ey
  obtain⟨z,hd,vs,rel,dd⟩:=nX I.aX e
  refine call_meetsIn PySem.F.slot_dict_get dd.typeIs PySem.F.entry_dict_get (PySem.F.args_dict_get_2 _ _) (meets_dict_get (bx X.prog X.w) a (nR ry) hd) ⟨_,dd.mapOf,h _ _ (I.tok _) ?_⟩
  rw[l]
  exact(rel.val k).getD rfl
 ·subst ey
  cases (show u=Value.ref b from ry)
  obtain⟨z,hd,xs,rel,dd⟩:=nW I.aX e
  refine call_meetsIn PySem.F.slot_dict_get dd.typeIs PySem.F.entry_dict_get (PySem.F.args_dict_get_2 _ _) (meetsH_dict_get (tupleKind (bx X.prog X.w)) a b hd) ⟨tupleKind_room_in1 hu,k,xs,lL I.aX eb,dd,h _ _ (I.tok _) ?_⟩
  rw[l]
  exact(rel.val k).getD rfl
theorem Ji {Q:Value->Shared->Prop}(hu:A.units+1 < cLine)(I:Inv X pins σ H s)(g:jA H a y o)(ry:RelV y u)(rd:RelV d r)(h:∀ w' s',Inv X pins σ H s'->RelV (o.getD d) w'->Q w' s') :
  wpAny (model X.prog X.w) A (call (.builtin "dict.get") [.ref a,u,r]) Q E s:=by
 rcases g with⟨kvs,k,e,ey,l⟩|⟨kvs,k,b,e,ey,eb,l⟩
 ·subst ey
  obtain⟨z,hd,vs,rel,dd⟩:=nX I.aX e
  refine call_meetsIn PySem.F.slot_dict_get dd.typeIs PySem.F.entry_dict_get (PySem.F.args_dict_get_3 _ _ _) (meets_dict_get_default (bx X.prog X.w) a (nR ry) hd r) ⟨_,dd.mapOf,h _ _ (I.tok _) ?_⟩
  rw[l]
  exact(rel.val k).getD rd
 ·subst ey
  cases (show u=Value.ref b from ry)
  obtain⟨z,hd,xs,rel,dd⟩:=nW I.aX e
  refine call_meetsIn PySem.F.slot_dict_get dd.typeIs PySem.F.entry_dict_get (PySem.F.args_dict_get_3 _ _ _) (meetsH_dict_get_default (tupleKind (bx X.prog X.w)) a b hd r) ⟨tupleKind_room_in1 hu,k,xs,lL I.aX eb,dd,h _ _ (I.tok _) ?_⟩
  rw[l]
  exact(rel.val k).getD rd
end
def GA (td ty:TE):TE:=λ σ H Q=>td σ H λ x H1=>∃ a,x=.ref a/\NO H1 a/\ty σ H1 λ y H2=>∃ o,jA H2 a y o/\Q (o.getD .aC) H2
def Gz (td ty tx:TE):TE:=λ σ H Q=>td σ H λ x H1=>∃ a,x=.ref a/\NO H1 a/\ty σ H1 λ y H2=>tx σ H2 λ z H3=>∃ o,jA H3 a y o/\Q (o.getD z) H3
section
variable {X:Cx}{o e f:Expr}{apos bE:Pos}{td ty tx:TE}
theorem Ai (hu:X.A.units+1 < cLine)(ho:PE X o td)(he:PE X e ty)(m:M1 X o "get" apos e bE):PE X (.Call (.Attribute o "get" apos) [e] [] bE) (GA td ty):=by
 intro pins s σ H Q I h
 refine wpAny_Call_method m.base m.PV m.line PySem.F.plainAttrs_dict PySem.F.slot_dict_get PySem.F.type_dict_get (bI (ho pins s σ H _ I h) λ u s1 ⟨x,H1,I1,rx,a,ex,d,q1⟩=>?_)
 subst ex
 obtain rfl:u=Value.ref a:=rx
 obtain⟨t1,t2,_⟩:=pT I1 d
 refine⟨t1,t2,?_⟩
 rw[m.trees]
 refine Calls.callWith_builtin rfl (Calls.evalArgs_plain (Calls.spliced_cons (bI (he pins s1 σ H1 _ I1 q1) λ iv s2 ⟨y,H2,I2,ry,ov,g,q2⟩=>Calls.spliced_nil ?_)))
 exact Jj hu I2 g ry λ w' s3 I3 se=>⟨_,H2,I3,se,q2⟩
theorem Ah (hu:X.A.units+1 < cLine)(ho:PE X o td)(he:PE X e ty)(hf:PE X f tx)(m:M2 X o "get" apos e f bE):PE X (.Call (.Attribute o "get" apos) [e,f] [] bE) (Gz td ty tx):=by
 intro pins s σ H Q I h
 refine wpAny_Call_method m.base m.PV m.line PySem.F.plainAttrs_dict PySem.F.slot_dict_get PySem.F.type_dict_get (bI (ho pins s σ H _ I h) λ u s1 ⟨x,H1,I1,rx,a,ex,d,q1⟩=>?_)
 subst ex
 obtain rfl:u=Value.ref a:=rx
 obtain⟨t1,t2,_⟩:=pT I1 d
 refine⟨t1,t2,?_⟩
 rw[m.trees]
 refine Calls.callWith_builtin rfl (Calls.evalArgs_plain (Calls.spliced_cons (bI (he pins s1 σ H1 _ I1 q1) λ iv s2 ⟨y,H2,I2,ry,q2⟩=>
  Calls.spliced_cons (bI (hf pins s2 σ H2 _ I2 q2) λ fv s3 ⟨z,H3,I3,rz,ov,g,q3⟩=>Calls.spliced_nil ?_))))
 exact Ji hu I3 g ry rz λ w' s4 I4 se=>⟨_,H3,I4,se,q3⟩
end
section
variable {X:Cx}{pins:List (Addr × Obj)}{σ:St}{H:Hp}{s:Shared}{a:Addr}{kvs:List (Key × V)}{A:Around}{E:Value->Shared->Prop}
end
section
variable {X:Cx}{pins:List (Addr × Obj)}{σ:St}{H:Hp}{s:Shared}{a:Addr}{y:V}{u:Value}{A:Around}{E:Value->Shared->Prop}
end
end L2
namespace Ri
open PySem PySem.W PySem.Calls PyProof.Rows
theorem oj {P:Params}{h:Heap}:∀ (ns:List Int) (vs:List Value),WellAll P h vs (ns.map WData.int)->IntsAre vs ns:=by
 intro ns
 induction ns with
 | nil=>
  intro vs w
  rw[List.map_nil]at w
  cases w
  exact .nil
 | cons n ns ih=>
  intro vs w
  rw[List.map_cons]at w
  cases w with
  | cons a b=>
   cases a
   exact .cons _ _ (ih _ b)
theorem xZ {l:OpenLaw}{n:Nat}(hn:l.most=some n){P:Params}{h:Heap}{args:List WData}{vals:List Value}
  (EN:l.row.toRowW.claim.pre args=true) (Ly:WellAll P h vals args) :
  ∃ a vs ns,vals=[Value.ref a]/\args=[WData.list (ns.map WData.int)]/\h.get? a=some { cls:=.type "list",data:=.seq vs.toArray }/\IntsAre vs ns/\ns.length<=n:=by
 have Sd:WShape.hasAll [] args [.list .int]=true:=(pre_splitW EN).1
 have hc:l.pre.holds [] { args:=args }=true:=(pre_splitW EN).2
 obtain⟨d,r,rfl,h1,h2⟩:=hasAllW_cons Sd
 obtain rfl:=hasAllW_nil h2
 obtain⟨xs,rfl,h3⟩:=hasW_list h1
 obtain⟨ns,rfl⟩:=items_int h3
 have hlen:ns.length<=n:=by
  unfold OpenLaw.pre at hc
  have h4:(WTm.not (.lt (.lit (.int (n:Int))) (.len (.arg 0)))).holds [] { args:=[.list (ns.map .int)] }=true:=by
   have h4:=(holds_andW hc).1
   rw[hn]at h4
   exact h4
  have h5:=condW_of h4 (w_not (w_lt w_lit (w_len_list (w_arg rfl))))
  rw[List.length_map]at h5
  refine Nat.le_of_not_lt λ q=>?_
  have q':(n:Int) < ((ns.length:Nat):Int):=by omega
  first
   | (rw[decide_eq_true q']at h5;exact absurd h5 (by decide))
   | (simp at h5;omega)
 cases Ly with
 | cons w1 w2=>
  cases w2
  cases w1 with
  | list ho Bu=>exact⟨_,_,ns,rfl,rfl,ho,oj ns _ Bu,hlen⟩
theorem ya (l:OpenLaw)(args:List WData):l.row.toRowW.claim.post args (.bool true) args=true:=
 postW_of (r:=l.row.toRowW) (X:=(true == true))
  (show WShape.has [] (.bool true) .bool=true by first|rfl|decide|simp[WShape.has,WShape.arms,WShape.armsAll])
  (show(WTm.eq .res (.lit (.bool true))).value [] { args:=args,res:=some (.bool true),after:=args }=some (.bool (true == true)) from w_eq_bool (w_res rfl) w_lit) rfl
theorem u7 {l:OpenLaw}{n:Nat}{q:Program}{loose:List Str}{XP:(Str->Option Value)->Heap->Prop}{YP:World->Heap->Prop}{d:DefRec}
  (hn:l.most=some n) (LK:d.params.defaults=[])
  (call:∀ (w:World) (gS s₁:Shared) (mg mb:Str->Option Value) (fa:Addr) (o:Obj) (pm cd doc:Value) (a:Addr) (vs:List Value) (ns:List Int),
   Ground q loose [] XP w gS mg mb s₁.heap->YP w s₁.heap->
   s₁.heap.get? fa=some o->o.data=.func (docDef d.name d.params d.body d.scope pm cd doc)->s₁.heap.CodeRec cd d.name->mg d.name=some (.ref fa)->
   s₁.heap.get? a=some { cls:=.type "list",data:=.seq vs.toArray }->IntsAre vs ns->ns.length<=n->s₁.gens=#[]->
   codeAny (model l.prog w) callerA (.call (.ref fa) ⟨[.ref a],[]⟩) (λ r s'=>r=.ok (.ret (.bool true))/\OldK s₁.heap s'.heap/\s'.os=s₁.os/\AllBare s'.gens) s₁) :
  WalkO q loose XP YP l.row.toRowW d [] (λ f vs=>PySem.call f vs):=by
 intro w gS s₁ mg mb G Y fa o pm cd doc dV kV ho hd xh hD LF hg args vals as EN Su TN Ly TU
 obtain rfl:dV=.none:=Dflts.none hD LK
 obtain rfl:kV=.none:=Dflts.noKw hD
 obtain⟨a,vs,ns,rfl,rfl,IP,hints,hlen⟩:=xZ hn EN Ly
 refine enter_call (codeAny_mono (call w gS s₁ mg mb fa o pm cd doc a vs ns G Y ho (fd_plain hd) xh LF IP hints hlen hg) λ r s' hq=>?_)
 obtain⟨rfl,h2,h3,h4⟩:=hq
 exact⟨.inl ⟨.bool true,.bool true,[],rfl,λ _=>rfl,.bool true,ya l _,λ _=>⟨List.Pairwise.nil,λ _ hm=>(nomatch hm)⟩⟩,h2,h3,h4⟩
section
variable {prog:Program}{w:World}{A:Around}{E:Value->Shared->Prop}{s:Shared}{K:Frag}
end
end Ri
namespace L2
open PySem PySem.Spec PyProof.Rows
theorem qG:∀ {vs:List Value}{ns:List Int},IntsAre vs ns->Vals (ns.map V.int) vs
 | _,_,.nil=>.nil
 | _,_,.cons n t h=>.cons ⟨t,rfl⟩ (qG h)
end L2
namespace L2
open PySem PySem.Spec PyProof.Rows
end L2
namespace L2
open PySem PySem.Spec PyProof.Rows
def inClass (s:Stmt)(j:Nat):Stmt:=match s with
 | .ClassDef _ _ _ body _ _ _ _ _ _ _=>body.getD j (.Pass ⟨0,0,0,0⟩)
 | _=>.Pass ⟨0,0,0,0⟩
def cS (s:Stmt):Arguments:=match s with
 | .FunctionDef _ a _ _ _ _ _ _ _ _=>a
 | _=>{ posonlyargs:=[],args:=[],vararg:=none,kwonlyargs:=[],kw_defaults:=[],kwarg:=none,defaults:=[] }
def bK (s:Stmt):List Stmt:=match s with
 | .FunctionDef _ _ b _ _ _ _ _ _ _=>b
 | _=>[]
def ax (s:Stmt):Scope:=match s with
 | .FunctionDef _ _ _ _ _ _ sc _ _ _=>sc
 | _=>{ kind:=.function,names:=[],isGenerator:=false,isCoroutine:=false }
abbrev E0:XK:=λ _ _ _=>False
structure Cc (K:PySem.W.Frag)(x qual:Str)(st:Stmt)(f:Addr)(fd:FuncData):Prop where
 ex:∃ (oc:Value) (od:Option Addr) (kV doc pm:Value) (an:Option Addr) (dG ct:Value) (qp:Array (Option Value)),
  fd=PySem.W.fnOf x qual (cS st) (bK st) (ax st) .none kV doc pm an dG ct/\K.lookup f=some ⟨oc,od,.func fd,qp⟩/\PySem.W.codeIn K dG qual=true
 kp:PySem.W.keepIn K (.ref f)=true
section
variable {P:Program}{w:World}{K:PySem.W.Frag}{mg:Str->Option Value}{base:Heap}
theorem Cc.binds {x qual:Str}{st:Stmt}{f:Addr}{fd:FuncData}{ps:List Str}(F:Cc K x qual st f fd)
  (h:∀ (kV doc pm:Value) (an:Option Addr) (dG ct:Value) (us:List Value),us.length=ps.length->bindArgs (PySem.W.fnOf x qual (cS st) (bK st) (ax st) .none kV doc pm an dG ct) ⟨us,[]⟩=pure (ps.zip us)):Binds K fd ps []:=by
 obtain⟨oc,od,kV,doc,pm,an,dG,ct,qp,rfl,lk,xh⟩:=F.ex
 exact .all (h kV doc pm an dG ct)
theorem sS {x qual:Str}{st:Stmt}{f:Addr}{oc:Value}{od an:Option Addr}{qp:Array (Option Value)}{kV doc pm dG ct:Value}(l:K.lookup f=some ⟨oc,od,.func (PySem.W.fnOf x qual (cS st) (bK st) (ax st) .none kV doc pm an dG ct),qp⟩)
  (c:PySem.W.codeIn K dG qual=true) (k:PySem.W.keepIn K (.ref f)=true):Cc K x qual st f (PySem.W.fnOf x qual (cS st) (bK st) (ax st) .none kV doc pm an dG ct):=⟨⟨oc,od,kV,doc,pm,an,dG,ct,qp,rfl,l,c⟩,k⟩
end
theorem FO {A:Around}{k:Nat}(hr:df k A):A.units+1 < cLine:=Nat.lt_of_le_of_lt (Nat.add_le_add_left (by decide:1<=64) _) hr.units
theorem bZ {n:Nat}(h:n<=1000):n < sizeLine:=Nat.lt_of_le_of_lt h (by decide)
section
variable {X:Cx}
theorem pv (i:Nat){x:Str}{pos:Pos}(hN:X.N[i]? = some x:=by rfl)(hv:Qc X.env.scope x:=by first|exact Or.inl rfl|exact Or.inr (Or.inl rfl)|exact Or.inr (Or.inr rfl)) (hd:(x == ("__debug__":Str))=false:=by decide)
  (xh:(x == ("__classdict__":Str))=false:=by decide):PE X (.Name x pos) (Gv i):=Ha hN hv hd xh
end
section
variable {κ:Type} [DecidableEq κ]
end
end L2
set_option maxHeartbeats 4000000
namespace L2
open PySem PySem.Spec PyProof.Rows
def i_ (X:Cx)(scope:Scope):List (Str × Option Nat)->Prop
 | []=>True
 | (_,none) :: r=>i_ X scope r
 | (x,some j) :: r=>(X.N[j]? = some x/\scope.names.lookup x=some .free/\(X.env.kindOf x=some .cell∨X.env.kindOf x=some .free))/\i_ X scope r
def xV (l:List (Str × Option Nat)) (σ:St):St:=l.map λ p=>p.2.bind λ j=>(σ[j]?).join
theorem i_.get {X:Cx}{scope:Scope}:∀ {l:List (Str × Option Nat)},i_ X scope l->∀ {i:Nat}{x:Str}{j:Nat},l[i]? = some (x,some j)->
  X.N[j]? = some x/\scope.names.lookup x=some .free/\(X.env.kindOf x=some .cell∨X.env.kindOf x=some .free)
 | [],_,i,x,j,e=>by simp at e
 | (y,none) :: r,h,0,x,j,e=>by simp at e
 | (y,none) :: r,h,i+1,x,j,e=>i_.get (l:=r) h (i:=i) (by simpa using e)
 | (y,some k) :: r,h,0,x,j,e=>by
  simp at e
  obtain⟨rfl,rfl⟩:=e
  exact h.1
 | (y,some k) :: r,h,i+1,x,j,e=>i_.get (l:=r) h.2 (i:=i) (by simpa using e)
theorem lU (env:Env):∀ (names:List (Str × NameKind)) (F_:List (Str × Addr)),(∀ x∈names,x.2=.free->∃ c,env.cells.lookup x.1=some c)->
  ∃ cl,(forIn names F_ (λ(x:Str × NameKind) (cs:List (Str × Addr))=>(if x.2 == .free then do let a <-cellOf env x.1;pure (ForInStep.yield ((x.1,a) :: cs)) else pure (ForInStep.yield cs):Sem (ForInStep (List (Str × Addr))))))=pure cl/\
   (∀ y c,cl.lookup y=some c->env.cells.lookup y=some c∨F_.lookup y=some c)/\(∀ x∈names,x.2=.free->∃ c,cl.lookup x.1=some c )/\(∀ y,(∃ c,F_.lookup y=some c)->∃ c,cl.lookup y=some c)
 | [],F_,h=>⟨F_,rfl,λ _ _ e=>.inr e,λ _ hx=>(nomatch hx),λ _ e=>e⟩
 | (n,k) :: r,F_,h=>by
  by_cases hk:k=.free
  ·subst hk
   obtain⟨c,ec⟩:=h (n,.free) List.mem_cons_self rfl
   obtain⟨cl,e1,e2,e3,e4⟩:=lU env r ((n,c) :: F_) λ x hx=>h x (List.mem_cons_of_mem _ hx)
   have hc:cellOf env n=pure c:=by
    unfold cellOf
    have ND:env.cells.lookup n=some c:=ec
    rw[ND]
   have own:∃ c',cl.lookup n=some c':=e4 n ⟨c,by simp[List.lookup_cons]⟩
   refine⟨cl,?_,λ y d e=>?_,λ x hx hf=>?_,λ y ⟨d,e⟩=>?_⟩
   ·rw[List.forIn_cons]
    simp only[beq_self_eq_true,if_true,hc,pure_bind]
    exact e1
   ·rcases e2 y d e with z|z
    ·exact .inl z
    ·rw[List.lookup_cons]at z
     split at z
     ·rename_i hy
      have:y=n:=by simpa using hy
      subst this
      cases z
      exact .inl ec
     ·exact .inr z
   ·rcases List.mem_cons.mp hx with rfl|hx
    ·exact own
    ·exact e3 x hx hf
   ·refine e4 y ?_
    rw[List.lookup_cons]
    split
    ·exact⟨_,rfl⟩
    ·exact⟨d,e⟩
  ·obtain⟨cl,e1,e2,e3,e4⟩:=lU env r F_ λ x hx=>h x (List.mem_cons_of_mem _ hx)
   have hb:(k == NameKind.free)=false:=by simpa using hk
   refine⟨cl,?_,e2,λ x hx hf=>?_,e4⟩
   ·rw[List.forIn_cons]
    simp only[hb,Bool.false_eq_true,if_false,pure_bind]
    exact e1
   ·rcases List.mem_cons.mp hx with rfl|hx
    ·exact absurd hf hk
    ·exact e3 x hx hf
theorem lq {scope:Scope}{env:Env}(h:∀ x∈scope.names,x.2=.free->∃ c,env.cells.lookup x.1=some c) :
  ∃ cl,closureFor scope env=pure cl/\(∀ y c,cl.lookup y=some c->env.cells.lookup y=some c)/\∀ x∈scope.names,x.2=.free->∃ c,cl.lookup x.1=some c:=by
 obtain⟨cl,e1,e2,e3,_⟩:=lU env scope.names [] h
 refine⟨cl,?_,λ y c e=>(e2 y c e).elim id λ z=>by simp at z,e3⟩
 unfold closureFor
 have Cu:=e1
 simp only[bind_pure_comp]at Cu ⊢
 first
  | (rw[Cu];rfl)
  | (simp only[Cu];rfl)
  | (simpa using Cu)
theorem gz {env:Env}:∀ {names:List (Str × NameKind)}{x:Str},names.lookup x=some .free->
    ((names.map λ(n,k)=>if (k == NameKind.free && env.scope.kind == .function && env.kindOf n == some .cell) then (n,NameKind.cell) else (n,k)).lookup x=some .cell∨
     (names.map λ(n,k)=>if (k == NameKind.free && env.scope.kind == .function && env.kindOf n == some .cell) then (n,NameKind.cell) else (n,k)).lookup x=some .free)
  | [],_,h=>by simp at h
  | (n,k) :: r,x,h=>by
    have ih:=@gz env r x
    show List.lookup x ((if (k == NameKind.free && env.scope.kind == .function && env.kindOf n == some .cell)=true then (n,NameKind.cell) else (n,k)) :: _)=_∨List.lookup x ((if (k == NameKind.free && env.scope.kind == .function && env.kindOf n == some .cell)=true then (n,NameKind.cell) else (n,k)) :: _)=_
    cases hx:x == n with
    | true=>
      simp only[List.lookup_cons,hx]at h
      cases h
      by_cases hc:(NameKind.free == NameKind.free && env.scope.kind == .function && env.kindOf n == some .cell)=true
      · rw[if_pos hc];left;simp[List.lookup_cons,hx]
      · rw[if_neg hc];right;simp[List.lookup_cons,hx]
    | false=>
      simp only[List.lookup_cons,hx]at h
      by_cases hc:(k == NameKind.free && env.scope.kind == .function && env.kindOf n == some .cell)=true
      · rw[if_pos hc];simp only[List.lookup_cons,hx];exact ih h
      · rw[if_neg hc];simp only[List.lookup_cons,hx];exact ih h
theorem md {env:Env}{x:Str}:∀ {names:List (Str × NameKind)},
    ((names.map λ(n,k)=>if (k == NameKind.free && env.scope.kind == .function && env.kindOf n == some .cell) then (n,NameKind.cell) else (n,k)).lookup x=some .cell∨
     (names.map λ(n,k)=>if (k == NameKind.free && env.scope.kind == .function && env.kindOf n == some .cell) then (n,NameKind.cell) else (n,k)).lookup x=some .free)->(x,NameKind.free)∈names∨names.lookup x=some .cell
  | [],h=>by simp at h
  | (n,k) :: r,h=>by
    have ih:=@md env x r
    simp only[List.map_cons]at h
    by_cases hb:(k == NameKind.free && env.scope.kind == .function && env.kindOf n == some .cell)=true
    · rw[if_pos hb]at h
      have Sw:k=.free:=by
        have:=(Bool.and_eq_true_iff.mp (Bool.and_eq_true_iff.mp hb).1).1
        simpa using this
      by_cases hx:x=n
      · rw[hx,Sw];exact .inl List.mem_cons_self
      · have EI:(x == n)=false:=by simpa using hx
        simp only[List.lookup_cons,EI]at h ⊢
        exact(ih h).imp (List.mem_cons_of_mem _) id
    · rw[if_neg hb]at h
      by_cases hx:x=n
      · have EI:(x == n)=true:=by simpa using hx
        simp only[List.lookup_cons,EI]at h ⊢
        rcases h with h|h
        · exact .inr h
        · rw[hx,Option.some.inj h];exact .inl List.mem_cons_self
      · have EI:(x == n)=false:=by simpa using hx
        simp only[List.lookup_cons,EI]at h ⊢
        exact(ih h).imp (List.mem_cons_of_mem _) id
theorem iN:∀ (names:List (Str × NameKind)) (n:Nat)(acc more:List (Str × Addr)),cellsFrom n names (acc++more)=cellsFrom n names acc++more
 | [],_,_,_=>rfl
 | (x,k) :: r,n,acc,more=>by
  unfold cellsFrom
  split
  ·exact iN r (n+1) ((x,n) :: acc) more
  ·exact iN r n acc more
theorem iM:∀ (names:List (Str × NameKind)) (n:Nat)(acc:List (Str × Addr)) (x:Str)(c:Addr),(x,c)∈cellsFrom n names acc->(x,NameKind.cell)∈names∨(x,c)∈acc
 | [],_,_,_,_,h=>.inr h
 | (y,k) :: r,n,acc,x,c,h=>by
  unfold cellsFrom at h
  split at h
  ·rename_i hk
   have hk:k=.cell:=by simpa using hk
   rcases iM r _ _ x c h with z|z
   ·exact .inl (List.mem_cons_of_mem _ z)
   ·rcases List.mem_cons.mp z with z|z
    ·cases z;rw[hk];exact .inl List.mem_cons_self
    ·exact .inr z
  ·exact(iM r _ _ x c h).imp (List.mem_cons_of_mem _) id
theorem kW {M:Model}{A:Around}{E:Value->Shared->Prop}{s:Shared}{scope:Scope}{globals:Addr}{closure:List (Str × Addr)}{qual:Str}{outer:Env}{Q:Env->Shared->Prop}
  (hQ:Q (newEnv scope s.heap.objs.size globals (cellsFrom (s.heap.objs.size+1) scope.names closure) qual none .none (some outer) 0) { s with heap:=pushCells (s.heap.push { cls:=.type "dict",data:=.dict #[] }) scope.names }) :
  wpAny M A (newFunctionEnv scope globals closure [] qual none .none (some outer)) Q E s:=by
 simp only[newFunctionEnv,Option.isSome_some,if_true]
 refine wpAny_bind (wpAny_alloc ?_)
 refine wpAny_bind (wpAny_layCells _ (λ name kind cells=>by cases Sx:kind == NameKind.cell<;>simp[Sx]) _ _ _ _ ?_)
 rw[show({ s with heap:=s.heap.push { cls:=.type "dict",data:=.dict #[] } }:Shared).heap.objs.size=s.heap.objs.size+1 from Heap.size_push ..]
 exact wpAny_bind (wpAny_pure (wpAny_pure hQ))
def bW (X:Cx)(l:List (Str × Option Nat)) (scope:Scope)(cl:List (Str × Addr)) (C:Addr)(fp:List Addr)(s3:Shared)(H3:Hp):Cx:=
 { X with N:=l.map (·.1),gS:=s3,wo:=H3,env:=compEnvC scope cl C X.env,outer:=X.stack,ex:=fp,fn:=λ x=>scope.names.lookup x == some .cell,pn:=[],xe:=λ _ _=>False }
def Fx (X:Cx)(ifs:List Expr)(t:TT):Prop:=
 ∀ (pins:List (Addr × Obj)) (s:Shared) (σ:St) (H:Hp) (Q:Bool->Hp->Prop),Inv X pins σ H s->t σ H Q->
  wpAny (model X.prog X.w) X.A (forIn ifs true λ c r=>if r=true then do let ok <-isTrue c X.env (eval c X.env);pure (ForInStep.yield ok) else pure (ForInStep.yield r)) (TP X pins σ Q) X.xe s
def NU:TT:=λ _ H Q=>Q true H
theorem Dv {X:Cx}:Fx X [] NU:=λ _ _ _ H _ I h=>wpAny_tests_nil ⟨H,I,h⟩
theorem Du {X:Cx}{c:Expr}{t:TT}(h:PT X c t):Fx X [c] t:=λ pins s σ H Q I hw=>wpAny_tests_one (h pins s σ H Q I hw)
theorem sY {prog:Program}{w:World}{A:Around}{R:Result->Shared->Prop}{s:Shared}{elt target iter:Expr}{ifs:List Expr}{scope:Scope}{pos:Pos}{it acc:Value}{env:Env}(I:Nat->Shared->Prop)
  (turn:∀ n s,I n s->wpAny (model prog w) A (pyNext it) (λ r s₁=>match r with
   | none=>R (.ok .next) s₁
   | some v=>wpAny (model prog w) A (letOwnedTupleGo target it v) (λ _ s₁'=>wpAny (model prog w) A (assign target env v) (λ _ s₂=>
     wpAny (model prog w) A (forIn ifs true λ c r=>if r=true then do let ok <-isTrue c env (eval c env);pure (ForInStep.yield ok) else pure (ForInStep.yield r)) (λ ok s₃=>
      if ok=true then wpAny (model prog w) A (eval elt env) (λ x s₄=>
       wpAny (model prog w) A (call (.builtin "list.append") [acc,x]) (λ _ s₅=>∃ m,m < n/\I m s₅) (λ _ _=>False) s₄) (λ _ _=>False) s₃
      else ∃ m,m < n/\I m s₃) (λ _ _=>False) s₂) (λ _ _=>False) s₁') (λ _ _=>False) s₁) (λ _ _=>False) s)
  (n:Nat) (h:I n s) :
  codeAny (model prog w) A (.compLoop (.ListComp elt [⟨target,iter,ifs,0⟩] scope pos) 0 it acc env) R s:=by
 have no:∀ {α:Type}{t:Sem α}{Q:α->Shared->Prop}{E:Value->Shared->Prop}{s:Shared},wpAny (model prog w) A t Q (λ _ _=>False) s->wpAny (model prog w) A t Q E s:=λ h=>wpAny_mono h (λ _ _ q=>q) λ _ _ f=>f.elim
 refine codeAny_loop rfl I (λ n s hI=>?_) n h
 show wpAny _ A ((compTurn (.ListComp elt [⟨target,iter,ifs,0⟩] scope pos) 0 it acc env).onRaise (λ x=>do noteFrame x env;theTreesLotGoes x)) _ _ s
 refine wpAny_noted ?_
 rw[compTurn_list]
 refine wpAny_bind (wpAny_standAt (wpAny_bind (bI (no (turn n s hI)) (λ r s₁ h₁=>?_))))
 cases r with
 | none=>exact wpAny_pure h₁
 | some v=>
  refine wpAny_bind (bI (no h₁) λ _ Ts SU=>?_)
  refine wpAny_bind (bI (no SU) (λ _ s₂ h₂=>wpAny_bind (bI (no h₂) (λ ok s₃ h₃=>?_))))
  cases ok with
  | false=>exact wpAny_pure ⟨rfl,h₃⟩
  | true=>
   exact wpAny_bind (wpAny_bind (bI (no h₃) (λ x s₄ h₄=>wpAny_bind (bI (no h₄) (λ _ s₅ h₅=>wpAny_pure (wpAny_pure ⟨rfl,h₅⟩))))))
def Gh (l:List (Str × Option Nat)) (g:TG)(tt:TT)(te:TE)(J:It)(σ:St)(H1:Hp)(Q:Addr->Hp->Prop):Prop:=
 ∀ D,H1 D=none->∃ W:Nat->Nat->List V->St->Hp->Prop,(∃ m,W 0 m [] (xV l σ) (upd H1 D (.lst [])))/\∀ i m ys σ1 H2,W i m ys σ1 H2->
  (J.stop i H2/\Q D H2)∨(J.go i H2/\∀ x H3,J.CD i H2 x H3->g x σ1 H3 λ σ2 H4=>tt σ2 H4 λ b H5=>
   if b=true then te σ2 H5 λ v H6=>H6 D=some (.lst ys)/\ys.length < sizeLine/\∃ m',m' < m/\W (i+1) m' (ys++[v]) σ2 (upd H6 D (.lst (ys++[v]))) else ∃ m',m' < m/\W (i+1) m' ys σ2 H5)
def GB (l:List (Str × Option Nat)) (wi:TI)(g:TG)(tt:TT)(te:TE)(σ:St)(H:Hp)(Q:Addr->Hp->Prop):Prop:=
 wi σ H λ J H1=>Gh l g tt te J σ H1 Q
theorem rF {X:Cx}{elt tg iter:Expr}{ifs:List Expr}{scope:Scope}{cl:List (Str × Addr)}{pos:Pos}{l:List (Str × Option Nat)}{g:TG}{tt:TT}{te:TE}
  (QX:closureFor scope X.env=pure cl) (vY:∀ y c,cl.lookup y=some c->X.env.cells.lookup y=some c) (LN:∀ x∈scope.names,x.2=.free->∃ c,cl.lookup x.1=some c)
  (Bq:scope.kind=.function) (xg:∀ y∈scope.names,y.2=.cell->scope.names.lookup y.1=some .cell) (lj:X.calm=true) (Pa:i_ X scope l)
  (hg:∀ cl C fp s3 H3,PG (bW X l scope cl C fp s3 H3) tg g) (ht:∀ cl C fp s3 H3,Fx (bW X l scope cl C fp s3 H3) ifs tt) (he:∀ cl C fp s3 H3,PE (bW X l scope cl C fp s3 H3) elt te)
  {pins:List (Addr × Obj)}{σ:St}{H:Hp}{s:Shared}{it:Addr}{fp:List Addr}{tn:Nat->Heap->Prop}{J:It}{Q:Addr->Hp->Prop}{RR:Value->Addr->Result->Shared->Prop}{E:Value->Shared->Prop}
  (I:Inv X pins σ H s) (T:Turn X.prog X.w X.K tg J fp it tn) (st:tn 0 s.heap) (QT:∀ b∈fp,qC X pins H b)
  (hw:Gh l g tt te J σ H Q)
  (SI:∀ D C (s':Shared) (H':Hp),Q D H'->(∃ m,s'.heap.Ns C m)->Inv X pins σ H' s'->qC X pins H' C->RR (.ref D) C (.ok .next) s') :
  wpAny (model X.prog X.w) X.A (newList []) (λ acc s₃=>wpAny (model X.prog X.w) X.A (newFunctionEnv scope X.env.globals cl [] X.env.qual none .none (some X.env)) (λ MU s₄=>
   codeAny (model X.prog X.w) X.A (.compStart (.ListComp elt [⟨tg,iter,ifs,0⟩] scope pos) 0 (.ref it) acc { MU with scope:=relabel scope X.env }) (RR acc MU.locals) s₄) E s₃) E s:=by
 refine wpAny_newList ?_ (by show 0<=sizeLine;exact Nat.zero_le _)
 have I3:Inv X pins σ (upd H s.heap.objs.size (.lst [])) { s with heap:=s.heap.push { cls:=.type "list",data:=.seq ([]:List Value).toArray } }:=
  I.Iu (its:=[]) (ys:=[]) (t':=s.toks) .nil (Nat.zero_le _)
 have hD:H s.heap.objs.size=none:=I.fresh
 obtain⟨W,⟨m0,w0⟩,turn⟩:=hw _ hD
 have fpD:∀ b∈fp,b≠s.heap.objs.size:=λ b hb z=>by
  obtain⟨o,ho,_⟩:=T.obj _ _ st b hb
  exact absurd (Heap.lt_size ho) (by rw[z];exact Nat.lt_irrefl _)
 have sP:∀ b∈fp,qC X pins (upd H s.heap.objs.size (.lst [])) b:=λ b hb=>⟨by rw[ah (fpD b hb)];exact(QT b hb).1,(QT b hb).2⟩
 have CT:tn 0 (s.heap.push { cls:=.type "list",data:=.seq ([]:List Value).toArray }):=T.keep _ _ _ st λ b _ o e=>Heap.get?_push_of_some _ e
 generalize TY:s.heap.objs.size=D at *
 generalize Sg:({ s with heap:=s.heap.push { cls:=.type "list",data:=.seq ([]:List Value).toArray } }:Shared)=s3 at *
 have GF:tn 0 s3.heap:=by rw[<-Sg];exact CT
 generalize SO:upd H D (HO.lst [])=H3 at *
 refine kW ?_
 have eC:(newEnv scope s3.heap.objs.size X.env.globals (cellsFrom (s3.heap.objs.size+1) scope.names cl) X.env.qual none Value.none (some X.env) 0).locals=s3.heap.objs.size:=rfl
 have P2:=cellsFrom_ok scope.names (s3.heap.push { cls:=.type "dict",data:=.dict #[] }) (s3.heap.objs.size+1) [] ⟨λ _ _ hm=>(nomatch hm),List.Pairwise.nil⟩ (by rw[Heap.size_push];exact Nat.le_refl _)
 rw[Heap.size_push]at P2
 have S7:cellsFrom (s3.heap.objs.size+1) scope.names cl=cellsFrom (s3.heap.objs.size+1) scope.names []++cl:=iN scope.names _ [] cl
 have Nt:(pushCells (s3.heap.push { cls:=.type "dict",data:=.dict #[] }) scope.names).Ns s3.heap.objs.size (λ _=>none):=(Heap.Ns.new s3.heap (.type "dict")).keeps (pushCells_keeps _ _)
 have old:∀ b o,s3.heap.get? b=some o->(pushCells (s3.heap.push { cls:=.type "dict",data:=.dict #[] }) scope.names).get? b=some o:=λ b o e=>pushCells_keeps _ _ b o (Heap.get?_push_of_some _ e)
 rw[S7]at *
 have ownN:∀ x c,(cellsFrom (s3.heap.objs.size+1) scope.names []).lookup x=some c->scope.names.lookup x=some .cell:=λ x c e=>by
  rcases iM _ _ _ _ _ (mem_of_lookup e) with z|z
  ·exact xg _ z rfl
  ·exact nomatch z
 have ownS:∀ x,scope.names.lookup x=some .cell->∃ c,(cellsFrom (s3.heap.objs.size+1) scope.names []).lookup x=some c:=λ x e=>Option.isSome_iff_exists.mp (PySem.W.cellsFrom_some scope.names _ [] (.inl e))
 generalize Si:cellsFrom (s3.heap.objs.size+1) scope.names []=own at *
 generalize TV:pushCells (s3.heap.push { cls:=.type "dict",data:=.dict #[] }) scope.names=h4 at *
 generalize hC:s3.heap.objs.size=C at *
 have eE:({ newEnv scope C X.env.globals (own++cl) X.env.qual none Value.none (some X.env) 0 with scope:=relabel scope X.env }:Env)=compEnvC scope (own++cl) C X.env:=rfl
 have cs_of:∀ x c,(own++cl).lookup x=some c->(own.lookup x=some c/\h4.IsCell c none/\C+1<=c)∨(own.lookup x=none/\cl.lookup x=some c):=λ x c e=>by
  rw[List.lookup_append]at e
  cases q:own.lookup x with
  | none=>rw[q]at e;exact .inr ⟨rfl,e⟩
  | some d=>rw[q]at e;cases e;exact .inl ⟨rfl,P2.empty x c (mem_of_lookup q)⟩
 have of_cl:∀ x c,scope.names.lookup x≠some .cell->cl.lookup x=some c->(own++cl).lookup x=some c:=λ x c n e=>by
  rw[List.lookup_append]
  cases q:own.lookup x with
  | none=>exact e
  | some d=>exact(n (ownN x d q)).elim
 have cltC:∀ y c,cl.lookup y=some c->c < C:=λ y c e=>by
  obtain⟨v,q⟩:=I3.cell y c (vY y c e)
  have:=q.lt
  rw[hC]at this
  exact this
 have fpC:∀ b∈fp,b≠C:=λ b hb z=>by
  obtain⟨o,ho,_⟩:=T.obj _ _ GF b hb
  exact absurd (Heap.lt_size ho) (by rw[z,hC];exact Nat.lt_irrefl _)
 have cellC:∀ y c,(own++cl).lookup y=some c->c≠C:=λ y c e z=>by
  rcases cs_of y c e with⟨_,_,q⟩|⟨_,q⟩
  ·rw[z]at q;exact absurd q (Nat.not_succ_le_self _)
  ·exact absurd (cltC y c q) (by rw[z];exact Nat.lt_irrefl _)
 have fpB:∀ b∈fp,b < C:=λ b hb=>by
  obtain⟨o,ho,_⟩:=T.obj _ _ GF b hb
  rw[<-hC];exact Heap.lt_size ho
 have fpCs:∀ b∈fp,∀ x c,(own++cl).lookup x=some c->c≠b:=λ b hb x c e z=>by
  rcases cs_of x c e with⟨_,_,q⟩|⟨_,q⟩
  ·rw[z]at q;exact absurd (Nat.lt_of_lt_of_le (fpB b hb) (Nat.le_of_succ_le q)) (Nat.lt_irrefl _)
  ·exact(sP b hb).2.2.2.2.1 x c (vY x c q) z
 have H3C:H3 C=none:=by
  have:=I3.fresh
  rw[hC]at this
  exact this
 have DC:D≠C:=by
  intro z
  have:=(show H3 D=some (.lst []) by rw[<-SO];exact aw)
  rw[z,H3C]at this;cases this
 have OK:(bW X l scope (own++cl) C fp s3 H3).Ok:={
  mod:=I3.ok.mod
  kind:=Bq
  glob:=I3.ok.glob
  blt:=I3.ok.blt
  above:=Nat.le_of_eq hC
  inj:=λ x y c e1 e2=>by
   rcases cs_of x c e1 with⟨p1,_,p3⟩|⟨_,p1⟩<;>rcases cs_of y c e2 with⟨q1,_,q3⟩|⟨_,q1⟩
   ·exact name_of_addr P2.apart (mem_of_lookup p1) (mem_of_lookup q1)
   ·exact absurd (cltC y c q1) (Nat.not_lt.mpr (Nat.le_of_succ_le p3))
   ·exact absurd (cltC x c p1) (Nat.not_lt.mpr (Nat.le_of_succ_le q3))
   ·exact I3.ok.inj x y c (vY x c p1) (vY y c q1)
  has:=λ x hx=>by
   show ∃ c,(own++cl).lookup x=some c
   rw[List.lookup_append]
   cases q:own.lookup x with
   | some d=>exact⟨d,rfl⟩
   | none=>
    rcases md hx with z|z
    ·obtain⟨c,e⟩:=LN (x,.free) z rfl
     exact⟨c,e⟩
    ·obtain⟨c,e⟩:=ownS x z
     rw[q]at e;cases e
  Ga:=λ x c hf e=>by
   have hf:(scope.names.lookup x == some NameKind.cell)=true:=hf
   have hf:scope.names.lookup x=some .cell:=by simpa using hf
   obtain⟨d,ed⟩:=ownS x hf
   rcases cs_of x c e with⟨_,_,q⟩|⟨q,_⟩
   ·show s3.heap.objs.size<=c
    rw[hC];omega
   ·rw[q]at ed;cases ed
  hd:=I3.ok.hd
  frames:=I3.ok.frames
  GC:=.inl rfl
  Mb:=λ b hb=>⟨fpC b hb,fpCs b hb⟩
  bs:=λ b o e=>I3.bs b o e
  xF:=Nat.le_trans I3.ok.xF I3.sz
  ur:=λ b o e hb=>by
   rcases(sP b hb).2.2.2.1 with z|z
   ·exact I3.ok.ur b o e z
   ·exact absurd (Nat.lt_of_lt_of_le (Heap.lt_size e) (Nat.le_trans I3.ok.xF z)) (Nat.lt_irrefl _)
  uL:=λ b hb hz=>by
   rcases List.mem_cons.mp (I3.vt b hz) with z|z
   ·exact(sP b hb).2.1 z
   ·exact(sP b hb).2.2.1 z
  lR:=I3.stack
  Cs:=I3.oB }
 have fpX:∀ {H':Hp},(∀ b∈fp,H' b=none)->∀ b∈fp,qC (bW X l scope (own++cl) C fp s3 H3) [] H' b:=λ hn b hb=>
  ⟨hn b hb,fpC b hb,OK.uL b hb,.inl hb,fpCs b hb,λ p hp=>nomatch hp⟩
 have I4:Inv (bW X l scope (own++cl) C fp s3 H3) [] (xV l σ) H3 { s3 with heap:=h4 }:={
  ok:=OK
  os:=rfl
  bare:=I3.bare
  base:=Un.kept old
  loc:=by
   refine⟨_,Nt,λ i x v e1 e2 e3=>?_⟩
   have Cu:(l.map (·.1))[i]? = some x:=e1
   have NF:(l.map λ p=>p.2.bind λ j=>(σ[j]?).join)[i]? = some (some v):=e2
   rw[List.getElem?_map]at Cu NF
   cases el:l[i]? with
   | none=>rw[el]at Cu;cases Cu
   | some p=>
    rw[el]at Cu NF
    obtain⟨y,o⟩:=p
    have PZ:y=x:=Option.some.inj Cu
    subst PZ
    cases o with
    | none=>cases NF
    | some j=>
     have E9:(σ[j]?).join=some v:=Option.some.inj NF
     have ej:σ[j]? = some (some v):=by
      cases q:σ[j]? with
      | none=>rw[q]at E9;cases E9
      | some z=>rw[q]at E9;exact congrArg some E9
     obtain⟨k1,k2,k3⟩:=Pa.get el
     obtain⟨m,hn,hl⟩:=I3.loc
     obtain⟨u,r,lk⟩:=hl j y v k1 ej (k3.elim (λ z=>.inr (.inl z)) λ z=>.inr (.inr z))
     refine⟨u,r,.inr ⟨gz k2,?_⟩⟩
     rcases lk with⟨z,_⟩|⟨_,c,ec,IX⟩
     ·rcases k3 with k3|k3<;>(rw[z]at k3;cases k3)
     ·have hm:(y,NameKind.free)∈scope.names:=by
       have:∀ {names:List (Str × NameKind)},names.lookup y=some NameKind.free->(y,NameKind.free)∈names:=by
        intro names
        induction names with
        | nil=>intro h;simp at h
        | cons q r ih=>
         intro h
         obtain⟨n,k⟩:=q
         rw[List.lookup_cons]at h
         split at h
         ·rename_i hy
          have:y=n:=by simpa using hy
          subst this
          cases h
          exact List.mem_cons_self
         ·exact List.mem_cons_of_mem _ (ih h)
       exact this k2
      obtain⟨c',ND⟩:=LN _ hm rfl
      have:c'=c:=by
       have:=vY _ _ ND
       rw[ec]at this
       exact(Option.some.inj this).symm
      subst this
      obtain⟨o,ho,hd⟩:=IX
      exact⟨c',of_cl _ _ (by rw[k2];intro z;cases z) ND,o,old _ _ ho,hd⟩
  cell:=λ x c e=>by
   rcases cs_of x c e with⟨_,q,_⟩|⟨_,q⟩
   ·exact⟨none,q⟩
   ·obtain⟨v,o,ho,hd⟩:=I3.cell x c (vY x c q)
    exact⟨v,o,old _ _ ho,hd⟩
  free:=H3C
  iq:=λ x c e=>by
   rcases cs_of x c e with⟨_,_,q⟩|⟨_,q⟩
   ·exact I3.aX.fresh (by rw[hC];omega)
   ·exact I3.iq x c (vY x c q)
  pin:=λ p hp=>nomatch hp
  aX:=I3.aX.kept old
  len:=by show(List.map _ l).length=(List.map _ l).length;rw[List.length_map,List.length_map] }
 have Oc:tn 0 h4:=T.keep _ _ _ GF λ b _ o e=>old b o e
 have loop:∀ s4:Shared,s4={ s3 with heap:=h4 }->
   codeAny (model X.prog X.w) X.A (.compLoop (.ListComp elt [⟨tg,iter,ifs,0⟩] scope pos) 0 (.ref it) (.ref D) (compEnvC scope (own++cl) C X.env)) (RR (.ref D) C) s4:=by
  rintro s4 rfl
  refine sY (λ n s'=>∃ i ys σ' H',Inv (bW X l scope (own++cl) C fp s3 H3) [] σ' H' s'/\tn i s'.heap/\(∀ b∈fp,H' b=none)/\W i n ys σ' H') ?_ m0
   ⟨0,[],xV l σ,H3,I4,Oc,λ b hb=>(sP b hb).1,w0⟩
  rintro n s5 ⟨i,ys,σ5,H5,I5,Ju,NA,w5⟩
  rcases turn i n ys σ5 H5 w5 with⟨stop,q⟩|⟨go,step⟩
  ·refine bI (T.done (bW X l scope (own++cl) C fp s3 H3) rfl rfl rfl lj i [] s5 σ5 H5 _ I5 (fpX NA) Ju stop) λ r s6 ⟨hr,I6⟩=>?_
   subst hr
   obtain⟨m6,Sr,_⟩:=I6.loc
   have u:Un (tR X.stack) fp H3 H5 s3.heap s6.heap:=I6.base
   refine SI D C s6 H5 q ⟨m6,Sr⟩ (I3.MW (s':=s6) (ch:=fp) I6.os u I6.aX I6.bare λ b hb=>⟨(sP b hb).2.2.2.1,(sP b hb).2.1,(sP b hb).2.2.2.2.1,(sP b hb).2.2.2.2.2⟩) ?_
   have hle:s3.heap.objs.size<=C:=Nat.le_of_eq hC
   have f0:=I3.v7 (H':=H5) hle I6.free
   exact f0
  ·refine bI (T.item (bW X l scope (own++cl) C fp s3 H3) rfl rfl rfl lj i [] s5 σ5 H5 _ I5 (fpX NA) Ju go) λ r s6 ⟨u,hr,h6⟩=>?_
   subst hr
   refine bI h6 λ _ s7 ⟨x,H7,I7,r7,y7,Ob,SV⟩=>?_
   have I7':=I7.pinned (fpX SV) (T.obj _ _ Ob)
   have back:∀ {σ8:St}{H8:Hp}{s8:Shared},Inv (bW X l scope (own++cl) C fp s3 H3) ([]++pk fp s7.heap) σ8 H8 s8->Inv (bW X l scope (own++cl) C fp s3 H3) [] σ8 H8 s8/\tn (i+1) s8.heap/\∀ b∈fp,H8 b=none:=λ {σ8 H8 s8} I8=>by
    refine⟨I8.l8,T.keep _ _ _ Ob λ b hb o e=>(I8.pin (b,o) (List.mem_append_right _ (List.mem_append_right _ (ji hb e)))).1,λ b hb=>?_⟩
    obtain⟨o,e,d⟩:=T.obj _ _ Ob b hb
    exact(I8.pin (b,o) (List.mem_append_right _ (List.mem_append_right _ (ji hb e)))).2.1
   refine bI (hg (own++cl) C fp s3 H3 _ s7 σ5 H7 x u _ I7' r7 (step x H7 y7)) λ _ s8 ⟨σ8,H8,I8,q8⟩=>?_
   refine bI (ht (own++cl) C fp s3 H3 _ s8 σ8 H8 _ I8 q8) λ ok s9 ⟨H9,I9,q9⟩=>?_
   cases ok with
   | false=>
    rw[if_neg (by decide)]at q9 ⊢
    obtain⟨m',hm,w9⟩:=q9
    obtain⟨z1,z2,z3⟩:=back I9
    exact⟨m',hm,i+1,ys,σ8,H9,z1,z2,z3,w9⟩
   | true=>
    rw[if_pos rfl]at q9 ⊢
    refine bI (he (own++cl) C fp s3 H3 _ s9 σ8 H9 _ I9 q9) λ xv Qn ⟨v,H10,I10,Kk,RF⟩=>?_
    obtain⟨Pl,hz,m',hm,Rj⟩:=RF
    refine bI (qW _ Qn σ8 H10 (.ref D) [v] (.ref D) [xv] (λ z H'=>z=.aC/\H'=upd H10 D (.lst (ys++[v]))) I10 rfl (.cons Kk .nil) ⟨D,ys,v,rfl,rfl,Pl,hz,rfl,rfl⟩) λ _ Tr Nz=>?_
    obtain⟨_,H11,I11,_,_,S'⟩:=Nz
    subst S'
    obtain⟨z1,z2,z3⟩:=back I11
    exact⟨m',hm,i+1,ys++[v],σ8,_,z1,z2,z3,Rj⟩
 exact codeAny_compStart_list (loop _ rfl) (T.self _ 0 _ _ _ Oc (loop _ rfl))
def zt (l:List (Str × Option Nat)) (wi:TI)(g:TG)(tt:TT)(te:TE):TE:=λ σ H Q=>GB l wi g tt te σ H λ D H'=>Q (.ref D) H'
section
variable {X:Cx}{elt tg iter:Expr}{ifs:List Expr}{scope:Scope}{pos:Pos}{wi:TI}{g:TG}{tt:TT}{te:TE}
structure eN (X:Cx)(scope:Scope)(l:List (Str × Option Nat)):Prop where
 kind:scope.kind=.function
 cell:∀ y∈scope.names,y.2=.cell->scope.names.lookup y.1=some .cell
 names:∀ y∈scope.names,y.2=.local->scope.names.lookup y.1=some .local
 free:∀ y∈scope.names,y.2=.free->X.env.kindOf y.1=some .cell∨X.env.kindOf y.1=some .free
 src:i_ X scope l
theorem DF (l:List (Str × Option Nat)) (uF:eN X scope l)(lj:X.calm=true)(hi:PI X tg iter wi)
  (hg:∀ cl C fp s3 H3,PG (bW X l scope cl C fp s3 H3) tg g) (ht:∀ cl C fp s3 H3,Fx (bW X l scope cl C fp s3 H3) ifs tt) (he:∀ cl C fp s3 H3,PE (bW X l scope cl C fp s3 H3) elt te)
  (hs:∀ x,foldedSetIterable iter X.env x=pure x:=by intro _;rfl) :
  PE X (.ListComp elt [⟨tg,iter,ifs,0⟩] scope pos) (zt l wi g tt te):=by
 intro pins s σ H Q I h
 obtain⟨cl,e1,e2,e3⟩:=lq (scope:=scope) (env:=X.env) λ x hx hf=>I.ok.has x.1 (uF.free x hx hf)
 rw[eval_ListComp]
 refine wpAny_comprehension_free (use:=none) rfl hs e1 uF.kind uF.names (bI (hi pins s σ H _ I h) λ v s1 h1=>bI h1 λ Nk s2 h2=>?_)
 obtain⟨it,fp,tn,J,H2,e,I2,T,Ci,f2,hw⟩:=h2
 subst e
 refine rF (RR:=λ acc C=>compPost (model X.prog X.w) X.A X.xe none (EP X pins σ Q) acc C) e1 e2 e3 uF.kind uF.cell lj uF.src hg ht he I2 T Ci f2 hw ?_
 intro D C s' H' q ⟨m,hn⟩ I' f'
 refine⟨m,hn,λ h' Pb=>?_⟩
 exact⟨.ref D,H',I'.turned (t':=s'.toks) (λ b o hb e=>(Pb.2 b hb).trans e) f'.1 f'.2.1 f'.2.2.2.1 f'.2.2.2.2.1 f'.2.2.2.2.2,rfl,q⟩
theorem vD {i:Nat}{y:Str}{py zB:Pos}(l:List (Str × Option Nat)) (uF:eN X scope l)(lj:X.calm=true)(hN:X.N.Nodup)(hy:X.N[i]? = some y)(hx:X.env.scope.names.lookup y=some .local)(hi:PI X tg iter wi)
  (hg:∀ cl C fp s3 H3,PG (bW X l scope cl C fp s3 H3) tg g) (ht:∀ cl C fp s3 H3,Fx (bW X l scope cl C fp s3 H3) ifs tt) (he:∀ cl C fp s3 H3,PE (bW X l scope cl C fp s3 H3) elt te)
  (O_:swapsWith (.ListComp elt [⟨tg,iter,ifs,0⟩] scope pos) (some (.Name y py)) zB.line X.env=pure true)
  (hs:∀ x,foldedSetIterable iter X.env x=pure x:=by intro _;rfl) :
  PS X (.Assign [.Name y py] (.ListComp elt [⟨tg,iter,ifs,0⟩] scope pos) zB) (CQ (zt l wi g tt te) (xk i)):=by
 intro pins s σ H D0 I h
 obtain⟨cl,e1,e2,e3⟩:=lq (scope:=scope) (env:=X.env) λ x hx hf=>I.ok.has x.1 (uF.free x hx hf)
 rw[exec_Assign_Name_used _ _ _ _ O_]
 refine wpAny_bind (wpAny_standAt (wpAny_bind ?_))
 show wpAny _ X.A (do let _ <-comprehension (.ListComp elt [⟨tg,iter,ifs,0⟩] scope pos) scope X.env _ (newList []) false (eval iter X.env) (some (assign (.Name y py) X.env))) _ _ s
 refine wpAny_bind (bI (wpAny_comprehension_free (use:=some (assign (.Name y py) X.env)) (Q:=λ _ s'=>SP X pins D0 .next s') rfl hs e1 uF.kind uF.names
  (bI (hi pins s σ H _ I h) λ v s1 h1=>bI h1 λ Nk s2 h2=>?_)) λ _ s' hq=>wpAny_pure (wpAny_pure hq))
 obtain⟨it,fp,tn,J,H2,e,I2,T,Ci,f2,hw⟩:=h2
 subst e
 refine rF (RR:=λ acc C=>compPost (model X.prog X.w) X.A X.xe (some (assign (.Name y py) X.env)) (λ _ s'=>SP X pins D0 .next s') acc C) e1 e2 e3 uF.kind uF.cell lj uF.src hg ht he I2 T Ci f2 hw ?_
 intro D C s' H' q ⟨m,hn⟩ I' f'
 show wpAny _ X.A (assign (.Name y py) X.env (.ref D)) _ _ _
 refine wpAny_assign_Name (qL (v:=.ref D) I' hN hy (.inl hx) rfl (λ ve I'' hk=>?_) (.inr hx))
 obtain⟨a,Se,ha⟩:=hk
 have SQ:C≠a:=by
  rintro rfl
  rcases ha with z|z
  ·exact f'.2.1 z
  ·exact f'.2.2.2.2.1 y _ z rfl
 refine⟨m,hn.sameBut Se SQ,λ h' Pb=>?_⟩
 exact⟨_,H',I''.turned (t':=ve.toks) (λ b o hb e=>(Pb.2 b hb).trans e) f'.1 f'.2.1 f'.2.2.2.1 f'.2.2.2.2.1 f'.2.2.2.2.2,q⟩
end
end L2
namespace L2
open PySem PySem.Spec PyProof.Rows
def eQ (n:Nat)(i:Int):Prop:=i.natAbs < 2 ^ n
theorem eQ.mono {n m:Nat}{i:Int}(h:eQ n i)(k:n<=m):eQ m i:=Nat.lt_of_lt_of_le h (Nat.pow_le_pow_right (by decide) k)
theorem eQ.mul {n m:Nat}{i j:Int}(h:eQ n i)(k:eQ m j):eQ (n+m) (i * j):=by
 unfold eQ at *
 rw[Int.natAbs_mul,Nat.pow_add]
 exact Nat.mul_lt_mul'' h k
theorem eQ.add {n:Nat}{i j:Int}(h:eQ n i)(k:eQ n j):eQ (n+1) (i+j):=by
 unfold eQ at *
 have:=Int.natAbs_add_le i j
 rw[Nat.pow_succ]
 omega
theorem eQ.le {n:Nat}{i j:Int}(h:eQ n i)(k:j.natAbs<=i.natAbs):eQ n j:=Nat.lt_of_le_of_lt k h
theorem eQ.bits {n:Nat}{i:Int}(h:eQ n i):Builtin.Int.intBits i<=n:=by
 unfold Builtin.Int.intBits
 split
 ·exact Nat.zero_le _
 ·rename_i hz
  have h0:i.natAbs≠0:=by
   intro z
   apply hz
   have:i=0:=by omega
   simp[this]
  have:=(Nat.log2_lt h0).mpr h
  omega
theorem eQ.log {n:Nat}{i:Int}(h:eQ n i)(hn:0 < n):i.natAbs.log2 < n:=by
 by_cases h0:i.natAbs=0
 ·rw[h0]
  show Nat.log2 0 < n
  have:Nat.log2 0=0:=by decide
  rw[this];exact hn
 ·exact(Nat.log2_lt h0).mpr h
theorem eQ.KS {i j:Int}(h:eQ 60000000 i)(k:eQ 60000000 j):IntMulOk i j:=by
 have h1:=h.bits
 have h2:=k.bits
 unfold IntMulOk
 have e:Builtin.Int.intTooBig (((Builtin.Int.intBits i+Builtin.Int.intBits j:Nat)):Int)=false:=by
  unfold Builtin.Int.intTooBig
  refine decide_eq_false ?_
  show ¬ ((((Builtin.Int.intBits i+Builtin.Int.intBits j:Nat)):Int) > (((2 ^ 27:Nat)):Int))
  have:(2 ^ 27:Nat)=134217728:=by decide
  omega
 simp[e]
 try (intro _ _;exact_mod_cast e)
theorem rq {i:Int}{n:Nat}(h1:-(2 ^ n) < i) (h2:i < 2 ^ n):eQ n i:=by
 unfold eQ
 have e:((2 ^ n:Nat):Int)=(2:Int) ^ n:=by
  rw[Int.natCast_pow];rfl
 have:(i.natAbs:Int) < ((2 ^ n:Nat):Int):=by rw[e];omega
 exact_mod_cast this
section
variable {X:Cx}
theorem DI:iC X (binaryOp .Mult) (rI (λ i j=>eQ 60000000 i/\eQ 60000000 j) λ i j=>.int (i * j)):=Ng λ _ _ _ _ _ _ _ hc q=>mul_int q (hc.1.KS hc.2)
theorem Ao:iC X (binaryOp .FloorDiv) (rI (λ _ j=>j≠0/\eQ 9000 j) λ i j=>.int (i.fdiv j)):=Ng λ _ _ _ _ _ _ _ hc q=>floordiv_int hc.1 q (.inl (PyProof.noPylong_of_log2 (hc.2.log (by decide))))
theorem tj:dP X (.builtin "divmod") (λ xs H Q=>∃ i j,xs=[.int i,.int j]/\(0 < j/\eQ 9000 j)/\∀ p,H p=none->Q (.ref p) (upd H p (.tup [.int (i / j),.int (i % j)]))):=by
 intro pins s σ H xs us Q I r h
 obtain⟨i,j,rfl,⟨h1,h2⟩,q⟩:=h
 obtain⟨u,w',rfl,⟨t,rfl⟩,⟨t',rfl⟩⟩:=vals2 r
 refine divmod_int (by omega) ?_ (.inl (PyProof.noPylong_of_log2 (h2.log (by decide))))
 rw[Int.fdiv_eq_ediv_of_nonneg i (by omega),Int.fmod_eq_emod_of_nonneg i (by omega)]
 have hn:H s.heap.objs.size=none:=I.aX.fresh (Nat.le_refl _)
 refine⟨.ref s.heap.objs.size,_,?_,rfl,q _ hn⟩
 refine I.laid (λ b o e=>Heap.get?_push_of_some _ e) (Nat.le_refl _) ⟨by simp only[List.length_cons,List.length_nil];rw[sizeLine_eq];decide,[.int (i / j) s.toks,.int (i % j) (s.toks+1)],.cons ⟨_,rfl⟩ (.cons ⟨_,rfl⟩ .nil),?_⟩
 exact⟨_,Heap.get?_push_size s.heap rfl,rfl,0,rfl⟩
theorem u5:∀ {bs:List Bool}{us:List Value},Vals (bs.map V.bl) us->∀ (i:Nat)(v:Value),us[i]? = some v->∃ b:Bool,bs[i]? = some b/\v=Value.bool b
 | [],us,r,i,v,e=>by
  cases r
  simp at e
 | b :: bs,us,r,i,v,e=>by
  cases r with
  | cons r1 r2=>
   cases i with
   | zero=>
    simp at e
    subst e
    exact⟨b,rfl,r1⟩
   | succ i=>
    obtain⟨b',e1,e2⟩:=u5 r2 i v (by simpa using e)
    exact⟨b',by simpa using e1,e2⟩
theorem vB (bs:List Bool):((List.range bs.length).all λ i=>(bs[i]?).getD true)=bs.all id:=by
 rw[Bool.eq_iff_iff,List.all_eq_true,List.all_eq_true]
 constructor
 ·intro h b hb
  obtain⟨i,hi,e⟩:=List.getElem_of_mem hb
  have:=h i (List.mem_range.mpr hi)
  simp only[List.getElem?_eq_getElem hi,Option.getD_some,e]at this
  exact this
 ·intro h i hi
  have yP:=List.mem_range.mp hi
  simp only[List.getElem?_eq_getElem yP,Option.getD_some]
  exact h _ (List.getElem_mem yP)
theorem yI (hc:X.calm=true):dP X (.builtin "all") (λ xs H Q=>∃ (a:Addr) (bs:List Bool),xs=[.ref a]/\fB X.K H a (bs.map V.bl)/\Q (.bl (bs.all id)) H):=by
 intro pins s σ H xs us Q I r h
 obtain⟨a,bs,rfl,ha,q⟩:=h
 obtain⟨u,rfl,ru⟩:=vals1 r
 cases ru
 obtain⟨its,rv,p,hz⟩:=I.list ha
 have hl:=p.isList
 have xb:a < s.heap.objs.size:=by obtain⟨_,e,_⟩:=hl;exact Heap.lt_size e
 refine call_all_walk (wpAny_pyIter_list hl ?_)
 refine⟨s.heap.objs.size,[s.heap.objs.size,a],[s.heap.objs.size],its.toArray.size,_,_,λ i=>(bs[i]?).getD true,rfl,Walks.list (A:=X.A.in1) (I.ok.hd hc) _ a (Nat.ne_of_lt xb) its.toArray,
  ⟨⟨_,Heap.get?_push_size _ rfl,rfl,rfl⟩,hl.push _⟩,λ i v s' Q' E' hP hQ=>?_,λ h' tk hk=>?_⟩
 ·obtain⟨b,e,rfl⟩:=u5 rv i v (by simpa using hP)
  simp only[e,Option.getD_some]at hQ
  exact wpAny_truthy_bool hQ
 ·have e:((List.range its.toArray.size).all λ i=>(bs[i]?).getD true)=bs.all id:=by
   rw[List.size_toArray,<-rv.length,List.length_map];exact vB bs
  rw[e]
  refine⟨.bl _,H,I.kept (t':=tk) λ b x e=>hk b x (λ hm=>?_) (Heap.get?_push_of_some _ e),rfl,q⟩
  rw[List.mem_singleton.mp hm]at e
  exact Nat.lt_irrefl _ (Heap.lt_size e)
end
inductive Dt where
 | aC|bl (b:Bool)|int (i:Int)|str (x:Str)|tup (l:List Dt)|lst (l:List Dt)
mutual
def Dt.dep:Dt->Nat
 | .tup l=>dc l+1
 | .lst l=>dc l+1
 | _=>0
def dc:List Dt->Nat
 | []=>0
 | d :: r=>max d.dep (dc r)
end
mutual
def dn:Dt->Dt->Bool
 | .aC,.aC=>true
 | .bl a,.bl b=>a == b
 | .bl a,.int b=>(if a then 1 else 0) == b
 | .int a,.bl b=>a == (if b then 1 else 0)
 | .int a,.int b=>a == b
 | .str a,.str b=>a == b
 | .tup a,.tup b=>g9 a b
 | .lst a,.lst b=>g9 a b
 | _,_=>false
def g9:List Dt->List Dt->Bool
 | [],[]=>true
 | a :: r,b :: q=>dn a b && g9 r q
 | _,_=>false
end
mutual
def Rep (K:PySem.W.Frag)(N:Addr->Prop)(H:Hp):Dt->V->Prop
 | .aC,v=>v=.aC
 | .bl b,v=>v=.bl b
 | .int i,v=>v=.int i
 | .str x,v=>v=.str x
 | .tup l,v=>∃ a xs,v=.ref a/\¬ N a/\hW K H a xs/\dq K N H l xs
 | .lst l,v=>∃ a xs,v=.ref a/\¬ N a/\fB K H a xs/\dq K N H l xs
def dq (K:PySem.W.Frag)(N:Addr->Prop)(H:Hp):List Dt->List V->Prop
 | [],xs=>xs=[]
 | d :: r,xs=>∃ x ys,xs=x :: ys/\Rep K N H d x/\dq K N H r ys
end
def rN (N:Addr->Prop)(H H':Hp):Prop:=∀ b o,H b=some o->¬ N b->H' b=some o
theorem rN.Kb {K:PySem.W.Frag}{N:Addr->Prop}{H H':Hp}{a:Addr}{xs:List V}(s:rN N H H')(n:¬ N a)(h:hW K H a xs):hW K H' a xs:=by
 rcases h with(h|⟨o,h⟩)|h
 ·exact .inl (.inl (s _ _ h n))
 ·exact .inl (.inr ⟨o,s _ _ h n⟩)
 ·exact .inr h
theorem rN.xX {K:PySem.W.Frag}{N:Addr->Prop}{H H':Hp}{a:Addr}{xs:List V}(s:rN N H H')(n:¬ N a)(h:fB K H a xs):fB K H' a xs:=by
 rcases h with(h|⟨o,h⟩)|h
 ·exact .inl (.inl (s _ _ h n))
 ·exact .inl (.inr ⟨o,s _ _ h n⟩)
 ·exact .inr h
mutual
theorem Rep.same {K:PySem.W.Frag}{N:Addr->Prop}{H H':Hp}(s:rN N H H'):∀ {d:Dt}{v:V},Rep K N H d v->Rep K N H' d v
 | .aC,_,h=>h
 | .bl _,_,h=>h
 | .int _,_,h=>h
 | .str _,_,h=>h
 | .tup l,v,h=>by
  unfold Rep at h ⊢
  obtain⟨a,xs,e,n,q,r⟩:=h
  exact⟨a,xs,e,n,s.Kb n q,dq.same s r⟩
 | .lst l,v,h=>by
  unfold Rep at h ⊢
  obtain⟨a,xs,e,n,q,r⟩:=h
  exact⟨a,xs,e,n,s.xX n q,dq.same s r⟩
theorem dq.same {K:PySem.W.Frag}{N:Addr->Prop}{H H':Hp}(s:rN N H H'):∀ {l:List Dt}{xs:List V},dq K N H l xs->dq K N H' l xs
 | [],_,h=>h
 | d :: r,xs,h=>by
  unfold dq at h ⊢
  obtain⟨x,ys,e,h1,h2⟩:=h
  exact⟨x,ys,e,Rep.same s h1,dq.same s h2⟩
end
theorem dq.length {K:PySem.W.Frag}{N:Addr->Prop}{H:Hp}:∀ {l:List Dt}{xs:List V},dq K N H l xs->l.length=xs.length
 | [],xs,h=>by unfold dq at h;rw[h];rfl
 | d :: r,xs,h=>by
  unfold dq at h
  obtain⟨x,ys,rfl,_,h2⟩:=h
  rw[List.length_cons,List.length_cons,dq.length h2]
theorem dq.get {K:PySem.W.Frag}{N:Addr->Prop}{H:Hp}:∀ {l:List Dt}{xs:List V}{i:Nat}{d:Dt},dq K N H l xs->l[i]? = some d->∃ x,xs[i]? = some x/\Rep K N H d x
 | [],xs,i,d,h,e=>by simp at e
 | d0 :: r,xs,0,d,h,e=>by
  unfold dq at h
  obtain⟨x,ys,rfl,h1,_⟩:=h
  simp at e
  subst e
  exact⟨x,rfl,h1⟩
 | d0 :: r,xs,i+1,d,h,e=>by
  unfold dq at h
  obtain⟨x,ys,rfl,_,h2⟩:=h
  obtain⟨y,e1,e2⟩:=dq.get (i:=i) h2 (by simpa using e)
  exact⟨y,by simpa using e1,e2⟩
theorem ku:∀ {l q:List Dt},l.length≠q.length->g9 l q=false
 | [],[],h=>absurd rfl h
 | [],_ :: _,_=>by simp[g9]
 | _ :: _,[],_=>by simp[g9]
 | a :: r,b :: q,h=>by
  simp only[g9]
  rw[ku (l:=r) (q:=q) (by simpa using h),Bool.and_false]
theorem g8:∀ {l q:List Dt},l.length=q.length->g9 l q=(List.range l.length).all λ i=>match l[i]?,q[i]? with|some a,some b=>dn a b|_,_=>true
 | [],[],_=>by simp[g9]
 | a :: r,b :: q,h=>by
  simp only[g9]
  rw[g8 (l:=r) (q:=q) (by simpa using h),List.length_cons,List.range_succ_eq_map,List.all_cons,List.all_map]
  simp[Function.comp_def]
theorem uV:∀ {l:List Dt}{i:Nat}{d:Dt},l[i]? = some d->d.dep<=dc l
 | [],i,d,e=>by simp at e
 | a :: r,0,d,e=>by simp at e;subst e;simp only[dc];exact Nat.le_max_left _ _
 | a :: r,i+1,d,e=>by
  have:=uV (l:=r) (i:=i) (d:=d) (by simpa using e)
  simp only[dc]
  exact Nat.le_trans this (Nat.le_max_right _ _)
section
variable {X:Cx}{pins:List (Addr × Obj)}{σ:St}{H:Hp}{s:Shared}{N N':Addr->Prop}
theorem uq (I:Inv X pins σ H s){a:Addr}{xs ys:List V}(h:fB X.K H a xs)(k:hW X.K H a ys):False:=by
 obtain⟨its,_,p,_⟩:=I.list h
 obtain⟨dm,_,q,_⟩:=I.tuple k
 obtain⟨o,e,c,_⟩:=p.isList
 obtain⟨o2,e2,c2,_⟩:=q
 rw[e]at e2
 cases e2
 rw[c]at c2
 injection c2 with z
 exact absurd z (by decide)
mutual
theorem Rep.inj (I:Inv X pins σ H s):∀ {d e:Dt}{v:V},Rep X.K N H d v->Rep X.K N' H e v->d=e
 | .aC,.aC,_,_,_=>rfl
 | .aC,.bl _,_,h,k=>by unfold Rep at h k;rw[h]at k;cases k
 | .aC,.int _,_,h,k=>by unfold Rep at h k;rw[h]at k;cases k
 | .aC,.str _,_,h,k=>by unfold Rep at h k;rw[h]at k;cases k
 | .aC,.tup _,_,h,k=>by unfold Rep at h k;obtain⟨_,_,e,_⟩:=k;rw[h]at e;cases e
 | .aC,.lst _,_,h,k=>by unfold Rep at h k;obtain⟨_,_,e,_⟩:=k;rw[h]at e;cases e
 | .bl _,.aC,_,h,k=>by unfold Rep at h k;rw[h]at k;cases k
 | .bl x,.bl y,_,h,k=>by unfold Rep at h k;rw[h]at k;cases k;rfl
 | .bl _,.int _,_,h,k=>by unfold Rep at h k;rw[h]at k;cases k
 | .bl _,.str _,_,h,k=>by unfold Rep at h k;rw[h]at k;cases k
 | .bl _,.tup _,_,h,k=>by unfold Rep at h k;obtain⟨_,_,e,_⟩:=k;rw[h]at e;cases e
 | .bl _,.lst _,_,h,k=>by unfold Rep at h k;obtain⟨_,_,e,_⟩:=k;rw[h]at e;cases e
 | .int _,.aC,_,h,k=>by unfold Rep at h k;rw[h]at k;cases k
 | .int _,.bl _,_,h,k=>by unfold Rep at h k;rw[h]at k;cases k
 | .int x,.int y,_,h,k=>by unfold Rep at h k;rw[h]at k;cases k;rfl
 | .int _,.str _,_,h,k=>by unfold Rep at h k;rw[h]at k;cases k
 | .int _,.tup _,_,h,k=>by unfold Rep at h k;obtain⟨_,_,e,_⟩:=k;rw[h]at e;cases e
 | .int _,.lst _,_,h,k=>by unfold Rep at h k;obtain⟨_,_,e,_⟩:=k;rw[h]at e;cases e
 | .str _,.aC,_,h,k=>by unfold Rep at h k;rw[h]at k;cases k
 | .str _,.bl _,_,h,k=>by unfold Rep at h k;rw[h]at k;cases k
 | .str _,.int _,_,h,k=>by unfold Rep at h k;rw[h]at k;cases k
 | .str x,.str y,_,h,k=>by unfold Rep at h k;rw[h]at k;cases k;rfl
 | .str _,.tup _,_,h,k=>by unfold Rep at h k;obtain⟨_,_,e,_⟩:=k;rw[h]at e;cases e
 | .str _,.lst _,_,h,k=>by unfold Rep at h k;obtain⟨_,_,e,_⟩:=k;rw[h]at e;cases e
 | .tup _,.aC,_,h,k=>by unfold Rep at h k;obtain⟨_,_,e,_⟩:=h;rw[k]at e;cases e
 | .tup _,.bl _,_,h,k=>by unfold Rep at h k;obtain⟨_,_,e,_⟩:=h;rw[k]at e;cases e
 | .tup _,.int _,_,h,k=>by unfold Rep at h k;obtain⟨_,_,e,_⟩:=h;rw[k]at e;cases e
 | .tup _,.str _,_,h,k=>by unfold Rep at h k;obtain⟨_,_,e,_⟩:=h;rw[k]at e;cases e
 | .tup l,.tup q,_,h,k=>by
  unfold Rep at h k
  obtain⟨a,xs,rfl,_,h1,h2⟩:=h
  obtain⟨b,ys,e,_,k1,k2⟩:=k
  cases e
  have:=I.mU h1 k1
  subst this
  rw[dq.inj I h2 k2]
 | .tup _,.lst _,_,h,k=>by unfold Rep at h k;obtain⟨_,_,rfl,_,h1,_⟩:=h;obtain⟨_,_,e,_,k1,_⟩:=k;cases e;exact(uq I k1 h1).elim
 | .lst _,.aC,_,h,k=>by unfold Rep at h k;obtain⟨_,_,e,_⟩:=h;rw[k]at e;cases e
 | .lst _,.bl _,_,h,k=>by unfold Rep at h k;obtain⟨_,_,e,_⟩:=h;rw[k]at e;cases e
 | .lst _,.int _,_,h,k=>by unfold Rep at h k;obtain⟨_,_,e,_⟩:=h;rw[k]at e;cases e
 | .lst _,.str _,_,h,k=>by unfold Rep at h k;obtain⟨_,_,e,_⟩:=h;rw[k]at e;cases e
 | .lst _,.tup _,_,h,k=>by unfold Rep at h k;obtain⟨_,_,rfl,_,h1,_⟩:=h;obtain⟨_,_,e,_,k1,_⟩:=k;cases e;exact(uq I h1 k1).elim
 | .lst l,.lst q,_,h,k=>by
  unfold Rep at h k
  obtain⟨a,xs,rfl,_,h1,h2⟩:=h
  obtain⟨b,ys,e,_,k1,k2⟩:=k
  cases e
  have:=I.pN h1 k1
  subst this
  rw[dq.inj I h2 k2]
theorem dq.inj (I:Inv X pins σ H s):∀ {l q:List Dt}{xs:List V},dq X.K N H l xs->dq X.K N' H q xs->l=q
 | [],[],_,_,_=>rfl
 | [],_ :: _,_,h,k=>by unfold dq at h k;obtain⟨_,_,e,_⟩:=k;rw[h]at e;cases e
 | _ :: _,[],_,h,k=>by unfold dq at h k;obtain⟨_,_,e,_⟩:=h;rw[k]at e;cases e
 | a :: r,b :: q,xs,h,k=>by
  unfold dq at h k
  obtain⟨x,ys,rfl,h1,h2⟩:=h
  obtain⟨y,zs,e,k1,k2⟩:=k
  cases e
  rw[Rep.inj I h1 k1,dq.inj I h2 k2]
end
mutual
theorem p_:∀ d:Dt,dn d d=true
 | .aC=>by simp[dn]
 | .bl _=>by simp[dn]
 | .int _=>by simp[dn]
 | .str _=>by simp[dn]
 | .tup l=>by simp only[dn];exact nA l
 | .lst l=>by simp only[dn];exact nA l
theorem nA:∀ l:List Dt,g9 l l=true
 | []=>by simp[g9]
 | d :: r=>by simp only[g9,p_ d,nA r,Bool.and_self]
end
theorem iW {A:Around}{k:Nat}(ih:∀ (d e:Dt){v w:V}{u z:Value},d.dep<=k->Rep X.K N H d v->Rep X.K N' H e w->RelV v u->RelV w z->SeqAt.EqAt A s u z (dn d e))
  {l q:List Dt}{xs ys:List V}{its dm:List Value}(hd:dc l<=k) (h:dq X.K N H l xs) (h':dq X.K N' H q ys) (r:Vals xs its) (r':Vals ys dm) :
  ∀ j (h1:j < its.toArray.size) (h2:j < dm.toArray.size),SeqAt.EqAt A s its.toArray[j] dm.toArray[j] (match l[j]?,q[j]? with|some a,some b=>dn a b|_,_=>true):=by
 intro j h1 h2
 have n1:l.length=its.length:=h.length.trans r.length
 have n2:q.length=dm.length:=h'.length.trans r'.length
 have j1:j < l.length:=by rw[n1];simpa using h1
 have j2:j < q.length:=by rw[n2];simpa using h2
 obtain⟨x,ex,rx⟩:=h.get (List.getElem?_eq_getElem j1)
 obtain⟨y,ey,ry⟩:=h'.get (List.getElem?_eq_getElem j2)
 obtain⟨u,eu,ru⟩:=r.get ex
 obtain⟨z,ez,rz⟩:=r'.get ey
 rw[List.getElem?_eq_getElem j1,List.getElem?_eq_getElem j2]
 have e1:its.toArray[j]=u:=by
  have:=List.getElem?_eq_some_iff.mp eu
  obtain⟨_,e⟩:=this
  simpa using e
 have e2:dm.toArray[j]=z:=by
  have:=List.getElem?_eq_some_iff.mp ez
  obtain⟨_,e⟩:=this
  simpa using e
 rw[e1,e2]
 exact ih _ _ (Nat.le_trans (uV (List.getElem?_eq_getElem j1)) hd) rx ry ru rz
theorem lT {l q:List Dt}{xs ys:List V}{its dm:List Value}(h:dq X.K N H l xs)(h':dq X.K N' H q ys)(r:Vals xs its)(r':Vals ys dm) :
  ((List.range (min its.toArray.size dm.toArray.size)).all (λ j=>match l[j]?,q[j]? with|some a,some b=>dn a b|_,_=>true) && its.toArray.size == dm.toArray.size)=g9 l q:=by
 have n1:l.length=its.toArray.size:=by simpa using h.length.trans r.length
 have n2:q.length=dm.toArray.size:=by simpa using h'.length.trans r'.length
 rw[<-n1,<-n2]
 by_cases hn:l.length=q.length
 ·rw[g8 hn,hn,Nat.min_self]
  simp
 ·rw[ku hn]
  have:(l.length == q.length)=false:=by simpa using hn
  rw[this,Bool.and_false]
theorem sU (I:Inv X pins σ H s):∀ (k:Nat) (A:Around),A.units+k < cLine->∀ (d e:Dt) {v w:V}{u z:Value},d.dep<=k->Rep X.K N H d v->Rep X.K N' H e w->RelV v u->RelV w z->SeqAt.EqAt A s u z (dn d e):=by
 intro k
 induction k with
 | zero=>
  intro A hA d e v w u z hd h h' r r'
  have hu:A.units < cLine:=by omega
  cases d with
  | tup l=>exact absurd hd (by simp[Dt.dep])
  | lst l=>exact absurd hd (by simp[Dt.dep])
  | aC=>
   unfold Rep at h
   subst h
   cases e with
   | aC=>
    unfold Rep at h'
    subst h'
    have:=a7 (A:=A) (s:=s) r r' rfl rfl
    simpa[dn,iK]using this
   | bl y=>
    unfold Rep at h'
    subst h'
    have:=a7 (A:=A) (s:=s) r r' rfl rfl
    simpa[dn,iK]using this
   | int y=>
    unfold Rep at h'
    subst h'
    have:=a7 (A:=A) (s:=s) r r' rfl rfl
    simpa[dn,iK]using this
   | str y=>
    unfold Rep at h'
    subst h'
    have:=a7 (A:=A) (s:=s) r r' rfl rfl
    simpa[dn,iK]using this
   | tup y=>
    unfold Rep at h'
    obtain⟨a,xs,rfl,_,q1,_⟩:=h'
    cases r'
    obtain⟨its,_,p,_⟩:=I.tuple q1
    cases r
    simp only[dn]
    exact SeqAt.EqAt.none_tuple p hu
   | lst y=>
    unfold Rep at h'
    obtain⟨a,xs,rfl,_,q1,_⟩:=h'
    cases r'
    obtain⟨its,_,p,_⟩:=I.list q1
    cases r
    simp only[dn]
    exact SeqAt.EqAt.none_list p.isList hu
  | bl x=>
   unfold Rep at h
   subst h
   cases e with
   | aC=>
    unfold Rep at h'
    subst h'
    have:=a7 (A:=A) (s:=s) r r' rfl rfl
    simpa[dn,iK]using this
   | bl y=>
    unfold Rep at h'
    subst h'
    have:=a7 (A:=A) (s:=s) r r' rfl rfl
    simpa[dn,iK]using this
   | int y=>
    unfold Rep at h'
    subst h'
    have:=a7 (A:=A) (s:=s) r r' rfl rfl
    simpa[dn,iK]using this
   | str y=>
    unfold Rep at h'
    subst h'
    have:=a7 (A:=A) (s:=s) r r' rfl rfl
    simpa[dn,iK]using this
   | tup y=>
    unfold Rep at h'
    obtain⟨a,xs,rfl,_,q1,_⟩:=h'
    cases r'
    obtain⟨its,_,p,_⟩:=I.tuple q1
    cases r
    simp only[dn]
    exact SeqAt.EqAt.bool_tuple x p hu
   | lst y=>
    unfold Rep at h'
    obtain⟨a,xs,rfl,_,q1,_⟩:=h'
    cases r'
    obtain⟨its,_,p,_⟩:=I.list q1
    cases r
    simp only[dn]
    exact SeqAt.EqAt.bool_list x p.isList hu
  | int x=>
   unfold Rep at h
   subst h
   cases e with
   | aC=>
    unfold Rep at h'
    subst h'
    have:=a7 (A:=A) (s:=s) r r' rfl rfl
    simpa[dn,iK]using this
   | bl y=>
    unfold Rep at h'
    subst h'
    have:=a7 (A:=A) (s:=s) r r' rfl rfl
    simpa[dn,iK]using this
   | int y=>
    unfold Rep at h'
    subst h'
    have:=a7 (A:=A) (s:=s) r r' rfl rfl
    simpa[dn,iK]using this
   | str y=>
    unfold Rep at h'
    subst h'
    have:=a7 (A:=A) (s:=s) r r' rfl rfl
    simpa[dn,iK]using this
   | tup y=>
    unfold Rep at h'
    obtain⟨a,xs,rfl,_,q1,_⟩:=h'
    cases r'
    obtain⟨its,_,p,_⟩:=I.tuple q1
    obtain⟨t,rfl⟩:=r
    simp only[dn]
    exact SeqAt.EqAt.int_tuple x t p hu
   | lst y=>
    unfold Rep at h'
    obtain⟨a,xs,rfl,_,q1,_⟩:=h'
    cases r'
    obtain⟨its,_,p,_⟩:=I.list q1
    obtain⟨t,rfl⟩:=r
    simp only[dn]
    exact SeqAt.EqAt.int_list x t p.isList hu
  | str x=>
   unfold Rep at h
   subst h
   cases e with
   | aC=>
    unfold Rep at h'
    subst h'
    have:=a7 (A:=A) (s:=s) r r' rfl rfl
    simpa[dn,iK]using this
   | bl y=>
    unfold Rep at h'
    subst h'
    have:=a7 (A:=A) (s:=s) r r' rfl rfl
    simpa[dn,iK]using this
   | int y=>
    unfold Rep at h'
    subst h'
    have:=a7 (A:=A) (s:=s) r r' rfl rfl
    simpa[dn,iK]using this
   | str y=>
    unfold Rep at h'
    subst h'
    have:=a7 (A:=A) (s:=s) r r' rfl rfl
    simpa[dn,iK]using this
   | tup y=>
    unfold Rep at h'
    obtain⟨a,xs,rfl,_,q1,_⟩:=h'
    cases r'
    obtain⟨its,_,p,_⟩:=I.tuple q1
    obtain⟨t,rfl⟩:=r
    simp only[dn]
    exact SeqAt.EqAt.str_tuple x t p hu
   | lst y=>
    unfold Rep at h'
    obtain⟨a,xs,rfl,_,q1,_⟩:=h'
    cases r'
    obtain⟨its,_,p,_⟩:=I.list q1
    obtain⟨t,rfl⟩:=r
    simp only[dn]
    exact SeqAt.EqAt.str_list x t p.isList hu
 | succ k ih=>
  intro A hA d e v w u z hd h h' r r'
  have hu:A.units < cLine:=by omega
  have Q4:A.in1.units+k < cLine:=by have:A.in1.units=A.units+1:=rfl;omega
  cases d with
  | aC=>
   unfold Rep at h
   subst h
   cases e with
   | aC=>
    unfold Rep at h'
    subst h'
    have:=a7 (A:=A) (s:=s) r r' rfl rfl
    simpa[dn,iK]using this
   | bl y=>
    unfold Rep at h'
    subst h'
    have:=a7 (A:=A) (s:=s) r r' rfl rfl
    simpa[dn,iK]using this
   | int y=>
    unfold Rep at h'
    subst h'
    have:=a7 (A:=A) (s:=s) r r' rfl rfl
    simpa[dn,iK]using this
   | str y=>
    unfold Rep at h'
    subst h'
    have:=a7 (A:=A) (s:=s) r r' rfl rfl
    simpa[dn,iK]using this
   | tup y=>
    unfold Rep at h'
    obtain⟨a,xs,rfl,_,q1,_⟩:=h'
    cases r'
    obtain⟨its,_,p,_⟩:=I.tuple q1
    cases r
    simp only[dn]
    exact SeqAt.EqAt.none_tuple p hu
   | lst y=>
    unfold Rep at h'
    obtain⟨a,xs,rfl,_,q1,_⟩:=h'
    cases r'
    obtain⟨its,_,p,_⟩:=I.list q1
    cases r
    simp only[dn]
    exact SeqAt.EqAt.none_list p.isList hu
  | bl x=>
   unfold Rep at h
   subst h
   cases e with
   | aC=>
    unfold Rep at h'
    subst h'
    have:=a7 (A:=A) (s:=s) r r' rfl rfl
    simpa[dn,iK]using this
   | bl y=>
    unfold Rep at h'
    subst h'
    have:=a7 (A:=A) (s:=s) r r' rfl rfl
    simpa[dn,iK]using this
   | int y=>
    unfold Rep at h'
    subst h'
    have:=a7 (A:=A) (s:=s) r r' rfl rfl
    simpa[dn,iK]using this
   | str y=>
    unfold Rep at h'
    subst h'
    have:=a7 (A:=A) (s:=s) r r' rfl rfl
    simpa[dn,iK]using this
   | tup y=>
    unfold Rep at h'
    obtain⟨a,xs,rfl,_,q1,_⟩:=h'
    cases r'
    obtain⟨its,_,p,_⟩:=I.tuple q1
    cases r
    simp only[dn]
    exact SeqAt.EqAt.bool_tuple x p hu
   | lst y=>
    unfold Rep at h'
    obtain⟨a,xs,rfl,_,q1,_⟩:=h'
    cases r'
    obtain⟨its,_,p,_⟩:=I.list q1
    cases r
    simp only[dn]
    exact SeqAt.EqAt.bool_list x p.isList hu
  | int x=>
   unfold Rep at h
   subst h
   cases e with
   | aC=>
    unfold Rep at h'
    subst h'
    have:=a7 (A:=A) (s:=s) r r' rfl rfl
    simpa[dn,iK]using this
   | bl y=>
    unfold Rep at h'
    subst h'
    have:=a7 (A:=A) (s:=s) r r' rfl rfl
    simpa[dn,iK]using this
   | int y=>
    unfold Rep at h'
    subst h'
    have:=a7 (A:=A) (s:=s) r r' rfl rfl
    simpa[dn,iK]using this
   | str y=>
    unfold Rep at h'
    subst h'
    have:=a7 (A:=A) (s:=s) r r' rfl rfl
    simpa[dn,iK]using this
   | tup y=>
    unfold Rep at h'
    obtain⟨a,xs,rfl,_,q1,_⟩:=h'
    cases r'
    obtain⟨its,_,p,_⟩:=I.tuple q1
    obtain⟨t,rfl⟩:=r
    simp only[dn]
    exact SeqAt.EqAt.int_tuple x t p hu
   | lst y=>
    unfold Rep at h'
    obtain⟨a,xs,rfl,_,q1,_⟩:=h'
    cases r'
    obtain⟨its,_,p,_⟩:=I.list q1
    obtain⟨t,rfl⟩:=r
    simp only[dn]
    exact SeqAt.EqAt.int_list x t p.isList hu
  | str x=>
   unfold Rep at h
   subst h
   cases e with
   | aC=>
    unfold Rep at h'
    subst h'
    have:=a7 (A:=A) (s:=s) r r' rfl rfl
    simpa[dn,iK]using this
   | bl y=>
    unfold Rep at h'
    subst h'
    have:=a7 (A:=A) (s:=s) r r' rfl rfl
    simpa[dn,iK]using this
   | int y=>
    unfold Rep at h'
    subst h'
    have:=a7 (A:=A) (s:=s) r r' rfl rfl
    simpa[dn,iK]using this
   | str y=>
    unfold Rep at h'
    subst h'
    have:=a7 (A:=A) (s:=s) r r' rfl rfl
    simpa[dn,iK]using this
   | tup y=>
    unfold Rep at h'
    obtain⟨a,xs,rfl,_,q1,_⟩:=h'
    cases r'
    obtain⟨its,_,p,_⟩:=I.tuple q1
    obtain⟨t,rfl⟩:=r
    simp only[dn]
    exact SeqAt.EqAt.str_tuple x t p hu
   | lst y=>
    unfold Rep at h'
    obtain⟨a,xs,rfl,_,q1,_⟩:=h'
    cases r'
    obtain⟨its,_,p,_⟩:=I.list q1
    obtain⟨t,rfl⟩:=r
    simp only[dn]
    exact SeqAt.EqAt.str_list x t p.isList hu
  | tup l=>
   have h0:=h
   unfold Rep at h
   obtain⟨a,xs,rfl,na,q1,q2⟩:=h
   cases r
   obtain⟨its,r1,p1,_⟩:=I.tuple q1
   have IV:dc l<=k:=by simp only[Dt.dep]at hd;omega
   cases e with
   | aC=>
    unfold Rep at h'
    subst h'
    cases r'
    simp only[dn]
    exact SeqAt.EqAt.tuple_none p1 hu
   | bl y=>
    unfold Rep at h'
    subst h'
    cases r'
    simp only[dn]
    exact SeqAt.EqAt.tuple_bool y p1 hu
   | int y=>
    unfold Rep at h'
    subst h'
    obtain⟨t,rfl⟩:=r'
    simp only[dn]
    exact SeqAt.EqAt.tuple_int y t p1 hu
   | str y=>
    unfold Rep at h'
    subst h'
    obtain⟨t,rfl⟩:=r'
    simp only[dn]
    exact SeqAt.EqAt.tuple_str y t p1 hu
   | tup q=>
    have L3:=h'
    unfold Rep at h'
    obtain⟨b,ys,rfl,nb,k1,k2⟩:=h'
    cases r'
    obtain⟨dm,r2,p2,_⟩:=I.tuple k1
    by_cases Co:a=b
    ·subst Co
     have:=Rep.inj I h0 L3
     rw[<-this,p_]
     exact SeqAt.EqAt.same _
    ·refine SeqAt.EqAt.of_refs Co ?_
     simp only[dn]
     have:=SeqAt.RcAt.tuples (A:=A) (s:=s) p1 p2 hu (iW (A:=A.in1) (λ d e=>ih A.in1 Q4 d e) IV q2 k2 r1 r2)
     rw[lT q2 k2 r1 r2]at this
     exact this
   | lst q=>
    have L3:=h'
    unfold Rep at h'
    obtain⟨b,ys,rfl,nb,k1,k2⟩:=h'
    cases r'
    obtain⟨dm,r2,p2,_⟩:=I.list k1
    simp only[dn]
    exact SeqAt.EqAt.tuple_list p1 p2.isList hu
  | lst l=>
   have h0:=h
   unfold Rep at h
   obtain⟨a,xs,rfl,na,q1,q2⟩:=h
   cases r
   obtain⟨its,r1,p1,_⟩:=I.list q1
   have IV:dc l<=k:=by simp only[Dt.dep]at hd;omega
   cases e with
   | aC=>
    unfold Rep at h'
    subst h'
    cases r'
    simp only[dn]
    exact SeqAt.EqAt.list_none p1.isList hu
   | bl y=>
    unfold Rep at h'
    subst h'
    cases r'
    simp only[dn]
    exact SeqAt.EqAt.list_bool y p1.isList hu
   | int y=>
    unfold Rep at h'
    subst h'
    obtain⟨t,rfl⟩:=r'
    simp only[dn]
    exact SeqAt.EqAt.list_int y t p1.isList hu
   | str y=>
    unfold Rep at h'
    subst h'
    obtain⟨t,rfl⟩:=r'
    simp only[dn]
    exact SeqAt.EqAt.list_str y t p1.isList hu
   | tup q=>
    have L3:=h'
    unfold Rep at h'
    obtain⟨b,ys,rfl,nb,k1,k2⟩:=h'
    cases r'
    obtain⟨dm,r2,p2,_⟩:=I.tuple k1
    simp only[dn]
    exact SeqAt.EqAt.list_tuple p1.isList p2 hu
   | lst q=>
    have L3:=h'
    unfold Rep at h'
    obtain⟨b,ys,rfl,nb,k1,k2⟩:=h'
    cases r'
    obtain⟨dm,r2,p2,_⟩:=I.list k1
    by_cases Co:a=b
    ·subst Co
     have:=Rep.inj I h0 L3
     rw[<-this,p_]
     exact SeqAt.EqAt.same _
    ·refine SeqAt.EqAt.of_refs Co ?_
     simp only[dn]
     have n1:l.length=its.toArray.size:=by simpa using q2.length.trans r1.length
     have n2:q.length=dm.toArray.size:=by simpa using k2.length.trans r2.length
     by_cases hn:l.length=q.length
     ·have:=SeqAt.RcAt.lists (A:=A) (s:=s) p1.isList p2.isList (by rw[<-n1,<-n2];exact hn) hu (iW (A:=A.in1) (λ d e=>ih A.in1 Q4 d e) IV q2 k2 r1 r2)
      rw[<-n1,<-g8 hn]at this
      exact this
     ·rw[ku hn]
      refine SeqAt.RcAt.lists_lengths p1.isList p2.isList ?_ hu
      rw[<-n1,<-n2]
      simpa using hn
def Kh (K:PySem.W.Frag)(neg:Bool):R2:=λ x y H Q=>∃ (N N':Addr->Prop) (l q:List Dt) (c:Bool),(Rep K N H (if c then .tup l else .lst l) x/\Rep K N' H (if c then .tup q else .lst q) y)/\dc l<=20/\Q (.bl (if neg then !g9 l q else g9 l q)) H
theorem Hs (hu:X.A.units+30 < cLine):iC X (compareOp .Eq) (Kh X.K false):=by
 intro pins s σ H x y v u Q I rx ry h
 obtain⟨N,N',l,q,c,⟨h1,h2⟩,hd,hq⟩:=h
 have IJ:X.A.units < cLine:=by omega
 have uE:X.A.in1.units+20 < cLine:=by have:X.A.in1.units=X.A.units+1:=rfl;omega
 cases c with
 | true=>
  simp only[if_true]at h1 h2
  unfold Rep at h1 h2
  obtain⟨a,xs,rfl,_,q1,q2⟩:=h1
  obtain⟨b,ys,rfl,_,k1,k2⟩:=h2
  cases rx
  cases ry
  obtain⟨its,r1,p1,_⟩:=I.tuple q1
  obtain⟨dm,r2,p2,_⟩:=I.tuple k1
  have:=SeqAt.RcAt.tuples (A:=X.A) (s:=s) p1 p2 IJ (iW (A:=X.A.in1) (λ d e=>sU I 20 X.A.in1 uE d e) hd q2 k2 r1 r2)
  rw[lT q2 k2 r1 r2]at this
  exact this X.prog X.w _ _ ⟨.bl _,H,I,rfl,hq⟩
 | false=>
  simp only[Bool.false_eq_true,if_false]at h1 h2
  unfold Rep at h1 h2
  obtain⟨a,xs,rfl,_,q1,q2⟩:=h1
  obtain⟨b,ys,rfl,_,k1,k2⟩:=h2
  cases rx
  cases ry
  obtain⟨its,r1,p1,_⟩:=I.list q1
  obtain⟨dm,r2,p2,_⟩:=I.list k1
  have n1:l.length=its.toArray.size:=by simpa using q2.length.trans r1.length
  have n2:q.length=dm.toArray.size:=by simpa using k2.length.trans r2.length
  by_cases hn:l.length=q.length
  ·have:=SeqAt.RcAt.lists (A:=X.A) (s:=s) p1.isList p2.isList (by rw[<-n1,<-n2];exact hn) IJ (iW (A:=X.A.in1) (λ d e=>sU I 20 X.A.in1 uE d e) hd q2 k2 r1 r2)
   rw[<-n1,<-g8 hn]at this
   exact this X.prog X.w _ _ ⟨.bl _,H,I,rfl,hq⟩
  ·simp only[ku hn]at hq
   exact SeqAt.RcAt.lists_lengths p1.isList p2.isList (by rw[<-n1,<-n2];simpa using hn) IJ X.prog X.w _ _ ⟨.bl _,H,I,rfl,hq⟩
theorem Hq (hu:X.A.units+30 < cLine):iC X (compareOp .NotEq) (Kh X.K true):=by
 intro pins s σ H x y v u Q I rx ry h
 obtain⟨N,N',l,q,c,⟨h1,h2⟩,hd,hq⟩:=h
 have IJ:X.A.units < cLine:=by omega
 have uE:X.A.in1.units+20 < cLine:=by have:X.A.in1.units=X.A.units+1:=rfl;omega
 cases c with
 | true=>
  simp only[if_true]at h1 h2
  unfold Rep at h1 h2
  obtain⟨a,xs,rfl,_,q1,q2⟩:=h1
  obtain⟨b,ys,rfl,_,k1,k2⟩:=h2
  cases rx
  cases ry
  obtain⟨its,r1,p1,_⟩:=I.tuple q1
  obtain⟨dm,r2,p2,_⟩:=I.tuple k1
  have:=SeqAt.RcNeAt.tuples (A:=X.A) (s:=s) p1 p2 IJ (iW (A:=X.A.in1) (λ d e=>sU I 20 X.A.in1 uE d e) hd q2 k2 r1 r2)
  rw[lT q2 k2 r1 r2]at this
  exact this X.prog X.w _ _ ⟨.bl _,H,I,rfl,hq⟩
 | false=>
  simp only[Bool.false_eq_true,if_false]at h1 h2
  unfold Rep at h1 h2
  obtain⟨a,xs,rfl,_,q1,q2⟩:=h1
  obtain⟨b,ys,rfl,_,k1,k2⟩:=h2
  cases rx
  cases ry
  obtain⟨its,r1,p1,_⟩:=I.list q1
  obtain⟨dm,r2,p2,_⟩:=I.list k1
  have n1:l.length=its.toArray.size:=by simpa using q2.length.trans r1.length
  have n2:q.length=dm.toArray.size:=by simpa using k2.length.trans r2.length
  by_cases hn:l.length=q.length
  ·have:=SeqAt.RcNeAt.lists (A:=X.A) (s:=s) p1.isList p2.isList (by rw[<-n1,<-n2];exact hn) IJ (iW (A:=X.A.in1) (λ d e=>sU I 20 X.A.in1 uE d e) hd q2 k2 r1 r2)
   rw[<-n1,<-g8 hn]at this
   exact this X.prog X.w _ _ ⟨.bl _,H,I,rfl,hq⟩
  ·simp only[ku hn]at hq
   exact SeqAt.RcNeAt.lists_lengths p1.isList p2.isList (by rw[<-n1,<-n2];simpa using hn) IJ X.prog X.w _ _ ⟨.bl _,H,I,rfl,hq⟩
end
end L2
namespace L2
open PySem PySem.Spec PyProof.Rows
structure Wk (J:It)(xs:List V)(ok:Hp->Prop):Prop where
 go:∀ i H,ok H->i < xs.length->J.go i H
 stop:∀ i H,ok H->i=xs.length->J.stop i H
 CD:∀ i H x H',ok H->J.CD i H x H'->H'=H/\xs[i]? = some x
theorem i_.any {X:Cx}{scope:Scope}:∀ {l:List (Str × Option Nat)},i_ X scope l->∀ {x:Str},(l.any λ p=>p.1 == x && p.2.isSome)=true->X.env.kindOf x=some .cell∨X.env.kindOf x=some .free
 | [],_,x,e=>by simp at e
 | (y,none) :: r,h,x,e=>i_.any (l:=r) h (by simpa using e)
 | (y,some k) :: r,h,x,e=>by
  rw[List.any_cons,Bool.or_eq_true]at e
  rcases e with e|e
  ·have:y=x:=by simpa using e
   subst this
   exact h.1.2.2
  ·exact i_.any (l:=r) h.2 e
theorem eN.of {X:Cx}{scope:Scope}{l:List (Str × Option Nat)}(hk:scope.kind=.function)(hc:∀ y∈scope.names,y.2=.cell->scope.names.lookup y.1=some .cell)(hn:∀ y∈scope.names,y.2=.local->scope.names.lookup y.1=some .local)
  (hf:∀ y∈scope.names,y.2=.free->(l.any λ p=>p.1 == y.1 && p.2.isSome)=true) (hs:i_ X scope l):eN X scope l:=⟨hk,hc,hn,λ y hy R6=>hs.any (hf y hy R6),hs⟩
theorem qx {i:Int}(h:eQ 64 i):eQ 9000 i:=h.mono (by decide)
end L2
namespace L2
open PySem PySem.Spec PyProof.Rows
def xN (c:Bool)(h:Heap)(i l:Addr)(k:Nat):Prop:=if c=true then h.IsTupleIter i l k else h.IsListIter i l k
def ow (c:Bool)(h:Heap)(l:Addr)(xs:Array Value):Prop:=if c=true then h.IsTuple l xs else h.IsList l xs
theorem xN.at {c:Bool}{h h':Heap}{i l:Addr}{k:Nat}(x:xN c h i l k)(e:∀ o,h.get? i=some o->h'.get? i=some o):xN c h' i l k:=by
 cases c with
 | true=>obtain⟨o,ho,r⟩:=(show h.IsTupleIter i l k from x);exact(show h'.IsTupleIter i l k from⟨o,e o ho,r⟩)
 | false=>obtain⟨o,ho,r⟩:=(show h.IsListIter i l k from x);exact(show h'.IsListIter i l k from⟨o,e o ho,r⟩)
theorem ow.at {c:Bool}{h h':Heap}{l:Addr}{xs:Array Value}(x:ow c h l xs)(e:∀ o,h.get? l=some o->h'.get? l=some o):ow c h' l xs:=by
 cases c with
 | true=>obtain⟨o,ho,r⟩:=(show h.IsTuple l xs from x);exact(show h'.IsTuple l xs from⟨o,e o ho,r⟩)
 | false=>obtain⟨o,ho,r⟩:=(show h.IsList l xs from x);exact(show h'.IsList l xs from⟨o,e o ho,r⟩)
theorem xN.obj {c:Bool}{h:Heap}{i l:Addr}{k:Nat}(x:xN c h i l k):∃ o,h.get? i=some o/\∀ v,o.data≠.cell v:=by
 cases c with
 | true=>obtain⟨o,ho,_,d⟩:=(show h.IsTupleIter i l k from x);exact⟨o,ho,λ v z=>by rw[d]at z;cases z⟩
 | false=>obtain⟨o,ho,_,d⟩:=(show h.IsListIter i l k from x);exact⟨o,ho,λ v z=>by rw[d]at z;cases z⟩
section
variable {prog:Program}{w:World}{A:Around}{E:Value->Shared->Prop}{s:Shared}
theorem pF {c:Bool}{i l:Addr}{k:Nat}{xs:Array Value}{v:Value}{Q:Value->Shared->Prop}(hi:xN c s.heap i l k)(hl:ow c s.heap l xs)(hx:xs[k]? = some v)
  (hQ:∀ h',xN c h' i l (k+1)->Heap.SameBut i s.heap h'->Q v { s with heap:=h' }):wpAny (model prog w) A (Builtin.SmallTypes.nextOf (.ref i)) Q E s:=by
 cases c with
 | false=>exact wpAny_nextOf_list_item hi hl hx hQ
 | true=>
  have yP:s.heap.IsTupleIter i l k:=hi
  obtain⟨o1,g1,g2,g3⟩:=id yP
  obtain⟨o2,f1,_,n2,f3⟩:=(show s.heap.IsTuple l xs from hl)
  unfold Builtin.SmallTypes.nextOf
  refine wpAny_bind (wpAny_callSpecial?_slot (name:=Str.ofString "__next__") yP.typeIs F.slot_tuple_iterator_next (wpAny_call_entry F.slot_tuple_iterator_next yP.typeIs F.entry_tuple_iterator_next ?_ (F.args_tuple_iterator_next_1 _)))
  show wpAny _ _ (field (.ref i) 0 >>= _) _ _ s
  refine wpAny_bind (wpAny_field g1 g3 (x:=.ref l) rfl ?_)
  show wpAny _ _ (if (Value.ref l == Value.none)=true then _ else _) _ _ s
  rw[if_neg (show ¬ ((Value.ref l == Value.none)=true) from Bool.false_ne_true)]
  show wpAny _ _ (field (.ref i) 1 >>= _) _ _ s
  refine wpAny_bind (wpAny_field g1 g3 (x:=.int k 0) rfl ?_)
  show wpAny _ _ (seqItems? (.ref l) >>= _) _ _ s
  refine wpAny_bind (wpAny_seqItems f1 f3 ?_)
  simp only[Int.toNat_natCast,hx]
  refine wpAny_bind (wpAny_setField g1 g3 (by simp) (wpAny_pure ⟨v,rfl,wpAny_pure (hQ _ (show Heap.IsTupleIter _ i l (k+1) from ?_) (Heap.SameBut.update ..))⟩))
  refine⟨_,Heap.get?_update_self _ g1 (Obj.isFreed_of_fields (Obj.data_mapFields g3 _)),(Obj.cls_mapFields ..).trans g2,?_⟩
  rw[Obj.data_mapFields g3]
  simp[rawInt]
theorem wQ {c:Bool}{i l:Addr}{k:Nat}{xs:Array Value}{Q:Value->Shared->Prop}(hh:A.handled=none)(hi:xN c s.heap i l k)(hl:ow c s.heap l xs)(hx:xs[k]? = none)
  (hE:∀ h' e,Heap.ExtBut i s.heap h'->(∃ o,h'.get? e=some o/\o.cls=.type "StopIteration")->E (.ref e) { s with heap:=h' }):wpAny (model prog w) A (Builtin.SmallTypes.nextOf (.ref i)) Q E s:=by
 cases c with
 | false=>exact wpAny_nextOf_list_end hh hi hl hx hE
 | true=>
  have yP:s.heap.IsTupleIter i l k:=hi
  obtain⟨o1,g1,g2,g3⟩:=id yP
  obtain⟨o2,f1,_,n2,f3⟩:=(show s.heap.IsTuple l xs from hl)
  unfold Builtin.SmallTypes.nextOf
  refine wpAny_bind (wpAny_callSpecial?_slot (name:=Str.ofString "__next__") yP.typeIs F.slot_tuple_iterator_next (wpAny_call_entry F.slot_tuple_iterator_next yP.typeIs F.entry_tuple_iterator_next ?_ (F.args_tuple_iterator_next_1 _)))
  show wpAny _ _ (field (.ref i) 0 >>= _) _ _ s
  refine wpAny_bind (wpAny_field g1 g3 (x:=.ref l) rfl ?_)
  show wpAny _ _ (if (Value.ref l == Value.none)=true then _ else _) _ _ s
  rw[if_neg (show ¬ ((Value.ref l == Value.none)=true) from Bool.false_ne_true)]
  show wpAny _ _ (field (.ref i) 1 >>= _) _ _ s
  refine wpAny_bind (wpAny_field g1 g3 (x:=.int k 0) rfl ?_)
  show wpAny _ _ (seqItems? (.ref l) >>= _) _ _ s
  refine wpAny_bind (wpAny_seqItems f1 f3 ?_)
  simp only[Int.toNat_natCast,hx]
  refine wpAny_bind (wpAny_rule (wpAny_bind (wpAny_setField g1 g3 (by simp) ?_)))
  show wpAny _ _ (newExc (.type "StopIteration") [] >>= _) _ _ _
  refine wpAny_bind ?_
  simp only[newExc,newTuple]
  refine wpAny_bind (wpAny_newObj_type ?_ (by size_fits))
  refine wpAny_bind (m:=firstArgMember _ _) (wpAny_of_eq (a:=Value.none) (by first|rfl|(simp only[firstArgMember];rfl)) ?_)
  refine wpAny_newObj_type ?_ (by size_fits)
  simp only[raiseNew]
  refine wpAny_bind (wpAny_handled ?_)
  first|rw[show A.in1.handled=none from hh]|rw[hh]
  refine wpAny_bind (wpAny_pure (wpAny_throw ?_))
  exact hE _ _ (((Heap.SameBut.update ..).extBut.push _).push _) ⟨_,Heap.get?_push_size _ rfl,rfl⟩
structure ZK (c1 c2:Bool)(h:Heap)(z a b i j l m:Addr)(k:Nat):Prop where
 zz:IsZip h z a b .none
 ins:IsPair h a (.ref i) (.ref j)
 out:∃ x y,IsPair h b x y
 i1:xN c1 h i l k
 i2:xN c2 h j m k
theorem CB {c1 c2:Bool}{z a b i j l m:Addr}{k:Nat}{xs ys:Array Value}{x y:Value}{Q:Option Value->Shared->Prop}(D:ZipApart z a b i j l m)(Z:ZK c1 c2 s.heap z a b i j l m k)
  (vg:ow c1 s.heap l xs) (sN:ow c2 s.heap m ys) (hx:xs[k]? = some x) (hy:ys[k]? = some y)
  (hQ:∀ h',IsZip h' z a b (rawInt s.heap.objs.size)->IsPair h' a (.ref i) (.ref j)->IsPair h' b x y->xN c1 h' i l (k+1)->xN c2 h' j m (k+1)->IsPair h' s.heap.objs.size x y->
   (∀ d o,d≠z->d≠b->d≠i->d≠j->s.heap.get? d=some o->h'.get? d=some o)->Q (some (.ref s.heap.objs.size)) { s with heap:=h' }) :
  wpAny (model prog w) A (pyNext (.ref z)) Q E s:=by
 obtain⟨hz,Cp,⟨p1,p2,EU⟩,h1,h2⟩:=Z
 have hT:s.TypeIs (.ref z) "zip":=⟨_,hz,rfl⟩
 unfold pyNext
 refine wpAny_bind (wpAny_attempt (wpAny_callSpecial?_slot (name:=Str.ofString "__next__") hT F.slot_zip_next (wpAny_call_entry F.slot_zip_next hT F.entry_zip_next ?_ (F.args_zip_next_1 _))))
 show wpAny _ _ (field (.ref z) 2 >>= _) _ _ _
 refine wpAny_bind (wpAny_field hz rfl (x:=.bool false) rfl ?_)
 show wpAny _ _ (field (.ref z) 3 >>= _) _ _ _
 refine wpAny_bind (wpAny_field hz rfl (x:=.ref a) rfl ?_)
 refine wpAny_bind (wpAny_seqItems Cp rfl ?_)
 show wpAny _ _ (Builtin.SmallTypes.ownedTupleIsFree (.ref z) >>= _) _ _ _
 refine wpAny_bind ?_
 unfold Builtin.SmallTypes.ownedTupleIsFree
 refine wpAny_bind (wpAny_field hz rfl (x:=.none) rfl (wpAny_pure ?_))
 simp only[if_true]
 refine wpAny_bind (wpAny_rule ?_)
 refine wpAny_bind (wpAny_field hz rfl (x:=.ref b) rfl ?_)
 refine wpAny_bind (wpAny_setField_rec hz (by simp) λ q1 z1 t1=>?_)
 replace z1:IsZip q1 z a b .ellipsis:=z1
 refine wpAny_bind ?_
 simp only[List.zipIdx_cons,List.zipIdx_nil,List.forIn_cons,List.forIn_nil]
 refine wpAny_bind (wpAny_bind (wpAny_onRaise ?_))
 show wpAny _ _ (Builtin.SmallTypes.nextOf (.ref i) >>= _) _ _ _
 refine wpAny_bind (pF (s:={ s with heap:=q1 }) (h1.at λ o e=>t1.extBut _ _ D.i1z e) (vg.at λ o e=>t1.extBut _ _ D.l1z e) hx λ q2 i2 t2=>wpAny_pure ?_)
 have b2:IsPair q2 b p1 p2:=t2.extBut _ _ D.TOi1 (t1.extBut _ _ D.TOz EU)
 refine wpAny_bind (wpAny_seqItems b2 rfl ?_)
 refine wpAny_bind (wpAny_updateSeq_pair b2 λ q3 b3 t3=>?_)
 replace b3:IsPair q3 b x p2:=b3
 refine wpAny_bind (wpAny_letGo (wpAny_pure ?_))
 refine wpAny_bind (wpAny_bind (wpAny_onRaise ?_))
 show wpAny _ _ (Builtin.SmallTypes.nextOf (.ref j) >>= _) _ _ _
 refine wpAny_bind (pF (s:={ s with heap:=q3 }) (h2.at λ o e=>t3.extBut _ _ D.TOi2.symm (t2.extBut _ _ D.i12.symm (t1.extBut _ _ D.i2z e)))
  (sN.at λ o e=>t3.extBut _ _ D.l2TO (t2.extBut _ _ D.l2i1 (t1.extBut _ _ D.l2z e))) hy λ q4 j4 t4=>wpAny_pure ?_)
 have b4:IsPair q4 b x p2:=t4.extBut _ _ D.TOi2 b3
 refine wpAny_bind (wpAny_seqItems b4 rfl ?_)
 refine wpAny_bind (wpAny_updateSeq_pair b4 λ q5 b5 t5=>?_)
 replace b5:IsPair q5 b x y:=b5
 refine wpAny_bind (wpAny_letGo (wpAny_pure (wpAny_pure ?_)))
 refine wpAny_bind (wpAny_seqItems b5 rfl ?_)
 refine wpAny_bind (wpAny_newTuple ?_)
 have hsz:q5.objs.size=s.heap.objs.size:=by rw[t5.1,t4.1,t3.1,t2.1,t1.1]
 have z5:IsZip q5 z a b .ellipsis:=t5.extBut _ _ D.TOz.symm (t4.extBut _ _ D.i2z.symm (t3.extBut _ _ D.TOz.symm (t2.extBut _ _ D.i1z.symm z1)))
 have k5:∀ d o,d≠z->d≠b->d≠i->d≠j->s.heap.get? d=some o->q5.get? d=some o:=λ d o e1 e2 e3 e4 e=>
  t5.extBut _ _ e2 (t4.extBut _ _ e4 (t3.extBut _ _ e2 (t2.extBut _ _ e3 (t1.extBut _ _ e1 e))))
 have i5:xN c1 q5 i l (k+1):=i2.at λ o e=>t5.extBut _ _ D.TOi1.symm (t4.extBut _ _ D.i12 (t3.extBut _ _ D.TOi1.symm e))
 have j5:xN c2 q5 j m (k+1):=j4.at λ o e=>t5.extBut _ _ D.TOi2.symm e
 have Qg:z < q5.objs.size:=Heap.lt_size z5
 show wpAny _ _ (Builtin.SmallTypes.ownedTupleHandOut (.ref z) (.ref q5.objs.size) >>= _) _ _ _
 refine wpAny_bind ?_
 unfold Builtin.SmallTypes.ownedTupleHandOut
 have z6:IsZip (q5.push { cls:=.type "tuple",data:=.seq #[x,y] }) z a b .ellipsis:=Heap.get?_push_of_some _ z5
 refine wpAny_bind (wpAny_setField_rec z6 (by simp) λ q7 z7 t7=>?_)
 replace z7:IsZip q7 z a b (rawInt q5.objs.size):=z7
 refine wpAny_setField_rec z7 (by simp) λ q8 z8 t8=>?_
 replace z8:IsZip q8 z a b (rawInt q5.objs.size):=z8
 have up:∀ d o,d≠z->q5.get? d=some o->q8.get? d=some o:=λ d o e1 e=>t8.extBut _ _ e1 (t7.extBut _ _ e1 (Heap.get?_push_of_some _ e))
 have T8:IsPair q8 q5.objs.size x y:=t8.extBut _ _ (Nat.ne_of_gt Qg) (t7.extBut _ _ (Nat.ne_of_gt Qg) (Heap.get?_push_size _ rfl))
 rw[hsz]at z8 T8
 refine wpAny_pure ⟨_,rfl,wpAny_pure ?_⟩
 show Q (some (.ref q5.objs.size)) _
 rw[hsz]
 exact hQ q8 z8 (up _ _ D.TIz (k5 _ _ D.TIz D.TITO D.TIi1 D.TIi2 Cp)) (up _ _ D.TOz b5) (i5.at λ o e=>up _ o D.i1z e) (j5.at λ o e=>up _ o D.i2z e) T8 λ d o e1 e2 e3 e4 e=>up d o e1 (k5 d o e1 e2 e3 e4 e)
theorem Gi {c1 c2:Bool}{z a b i j l m:Addr}{k:Nat}{xs ys:Array Value}{Q:Option Value->Shared->Prop}(hh:A.handled=none)(D:ZipApart z a b i j l m)(Z:ZK c1 c2 s.heap z a b i j l m k)
  (vg:ow c1 s.heap l xs) (sN:ow c2 s.heap m ys) (Pw:xs[k]? = none∨ys[k]? = none)
  (hQ:∀ h',(∀ d o,d≠z->d≠b->d≠i->d≠j->s.heap.get? d=some o->h'.get? d=some o)->Q none { s with heap:=h' }):wpAny (model prog w) A (pyNext (.ref z)) Q E s:=by
 obtain⟨hz,Cp,⟨p1,p2,EU⟩,h1,h2⟩:=Z
 have hT:s.TypeIs (.ref z) "zip":=⟨_,hz,rfl⟩
 unfold pyNext
 have last:∀ h' e,(∀ d o,d≠z->d≠b->d≠i->d≠j->s.heap.get? d=some o->h'.get? d=some o)->(∃ o,h'.get? e=some o/\o.cls=.type "StopIteration")->
   wpAny (model prog w) A (do if <-isInstance (.ref e) (.type "StopIteration") then pure none else throw (.ref e):Sem (Option Value)) Q E { s with heap:=h' }:=λ h' e hk ⟨o,ho,hc⟩=>
  wpAny_bind (wpAny_isInstance (T:="StopIteration") (b:=true) ⟨o,ho,hc⟩ isSubtype_stop (wpAny_pure (hQ h' hk)))
 refine wpAny_bind (wpAny_attempt (wpAny_callSpecial?_slot (name:=Str.ofString "__next__") hT F.slot_zip_next (wpAny_call_entry F.slot_zip_next hT F.entry_zip_next ?_ (F.args_zip_next_1 _))))
 show wpAny _ _ (field (.ref z) 2 >>= _) _ _ _
 refine wpAny_bind (wpAny_field hz rfl (x:=.bool false) rfl ?_)
 show wpAny _ _ (field (.ref z) 3 >>= _) _ _ _
 refine wpAny_bind (wpAny_field hz rfl (x:=.ref a) rfl ?_)
 refine wpAny_bind (wpAny_seqItems Cp rfl ?_)
 show wpAny _ _ (Builtin.SmallTypes.ownedTupleIsFree (.ref z) >>= _) _ _ _
 refine wpAny_bind ?_
 unfold Builtin.SmallTypes.ownedTupleIsFree
 refine wpAny_bind (wpAny_field hz rfl (x:=.none) rfl (wpAny_pure ?_))
 simp only[if_true]
 refine wpAny_bind (wpAny_rule ?_)
 refine wpAny_bind (wpAny_field hz rfl (x:=.ref b) rfl ?_)
 refine wpAny_bind (wpAny_setField_rec hz (by simp) λ q1 z1 t1=>?_)
 replace z1:IsZip q1 z a b .ellipsis:=z1
 refine wpAny_bind ?_
 simp only[List.zipIdx_cons,List.zipIdx_nil,List.forIn_cons,List.forIn_nil]
 refine wpAny_bind (wpAny_bind (wpAny_onRaise ?_))
 show wpAny _ _ (Builtin.SmallTypes.nextOf (.ref i) >>= _) _ _ _
 cases hx:xs[k]? with
 | none=>
  refine wpAny_bind (wQ (s:={ s with heap:=q1 }) hh (h1.at λ o e=>t1.extBut _ _ D.i1z e) (vg.at λ o e=>t1.extBut _ _ D.l1z e) hx λ q2 e t2 he=>?_)
  obtain⟨oe,IM,LO⟩:=he
  have z2:IsZip q2 z a b .ellipsis:=t2 _ _ D.i1z.symm z1
  have Pu:e≠z:=λ x=>by subst x;rw[z2]at IM;cases IM;simp at LO
  refine wpAny_setField_rec z2 (by simp) λ q3 _ t3=>?_
  exact last q3 e (λ d o e1 _ e3 _ x=>t3.extBut _ _ e1 (t2 _ _ e3 (t1.extBut _ _ e1 x))) ⟨oe,t3.extBut _ _ Pu IM,LO⟩
 | some x=>
  have hy:ys[k]? = none:=by
   rcases Pw with h|h
   ·rw[hx]at h;cases h
   ·exact h
  refine wpAny_bind (pF (s:={ s with heap:=q1 }) (h1.at λ o e=>t1.extBut _ _ D.i1z e) (vg.at λ o e=>t1.extBut _ _ D.l1z e) hx λ q2 i2 t2=>wpAny_pure ?_)
  have b2:IsPair q2 b p1 p2:=t2.extBut _ _ D.TOi1 (t1.extBut _ _ D.TOz EU)
  refine wpAny_bind (wpAny_seqItems b2 rfl ?_)
  refine wpAny_bind (wpAny_updateSeq_pair b2 λ q3 b3 t3=>?_)
  refine wpAny_bind (wpAny_letGo (wpAny_pure ?_))
  refine wpAny_bind (wpAny_bind (wpAny_onRaise ?_))
  show wpAny _ _ (Builtin.SmallTypes.nextOf (.ref j) >>= _) _ _ _
  refine wpAny_bind (wQ (s:={ s with heap:=q3 }) hh (h2.at λ o e=>t3.extBut _ _ D.TOi2.symm (t2.extBut _ _ D.i12.symm (t1.extBut _ _ D.i2z e)))
   (sN.at λ o e=>t3.extBut _ _ D.l2TO (t2.extBut _ _ D.l2i1 (t1.extBut _ _ D.l2z e))) hy λ q4 e t4 he=>?_)
  obtain⟨oe,IM,LO⟩:=he
  have z4:IsZip q4 z a b .ellipsis:=t4 _ _ D.i2z.symm (t3.extBut _ _ D.TOz.symm (t2.extBut _ _ D.i1z.symm z1))
  have Pu:e≠z:=λ x=>by subst x;rw[z4]at IM;cases IM;simp at LO
  refine wpAny_setField_rec z4 (by simp) λ q5 _ t5=>?_
  exact last q5 e (λ d o e1 e2 e3 e4 x=>t5.extBut _ _ e1 (t4 _ _ e4 (t3.extBut _ _ e2 (t2.extBut _ _ e3 (t1.extBut _ _ e1 x))))) ⟨oe,t5.extBut _ _ Pu IM,LO⟩
theorem AB (l m:Addr)(xs ys:Array Value) :
  Meets (Builtin.«zip.__new__» ⟨[.type "zip",.ref l,.ref m],[]⟩) (λ _ R s=>s.heap.IsTuple l xs/\s.heap.IsTuple m ys/\
   R (.ok (.ret (.ref (s.heap.objs.size+4)))) { s with heap:=((((s.heap.push { cls:=.type "tuple_iterator",data:=.fields #[.ref l,.int 0 0] }).push { cls:=.type "tuple_iterator",data:=.fields #[.ref m,.int 0 0] }).push
    { cls:=.type "tuple",data:=.seq #[.ref s.heap.objs.size,.ref (s.heap.objs.size+1)] }).push { cls:=.type "tuple",data:=.seq #[.none,.none] }).push { cls:=.type "zip",data:=.fields #[.none,.bool false,.bool false,.ref (s.heap.objs.size+2),.ref (s.heap.objs.size+3)] } }):=
 .of_wp λ prog w A R s h=>by
  obtain⟨hp,g,d,tk,os⟩:=s;obtain⟨vg,sN,h⟩:=h
  have EM:=sub_zip
  have SM:Heap.IsTuple (Shared.heap ⟨hp,g,d,tk,os⟩) l xs:=vg
  have SK:Heap.IsTuple (Shared.heap ⟨hp.push { cls:=.type "tuple_iterator",data:=.fields #[.ref l,.int 0 0] },g,d,tk,os⟩) m ys:=Heap.IsTuple.push sN _
  wp_walk using wpAny_pyIter_tuple SM,wpAny_pyIter_tuple SK
  simp only[Heap.size_push]at h ⊢
  exact⟨_,rfl,h⟩
theorem yS {c:Bool}{l m:Addr}{xs ys:Array Value}{Q:Value->Shared->Prop}(vg:ow c s.heap l xs)(sN:ow c s.heap m ys)
  (k:∀ h',ZK c c h' (s.heap.objs.size+4) (s.heap.objs.size+2) (s.heap.objs.size+3) s.heap.objs.size (s.heap.objs.size+1) l m 0->(∀ d o,s.heap.get? d=some o->h'.get? d=some o)->Q (.ref (s.heap.objs.size+4)) { s with heap:=h' }) :
  wpAny (model prog w) A (call (.type "zip") [.ref l,.ref m]) Q E s:=by
 cases c with
 | false=>exact call_zip_2 vg sN λ h' hz Cp EU Sy ES _ hk=>k h' ⟨hz,Cp,⟨_,_,EU⟩,Sy,ES⟩ hk
 | true=>
  refine callType_new F.called_zip (by decide) (F.typeCall_zip_2 _ _) (F.newCall_zip_2 _ _) (λ obj=>F.args_object_init_3 obj _ _) F.entry_zip_new (AB l m xs ys) ⟨vg,sN,?_⟩
  have p:∀ (h:Heap) (o1 o2 o3 o4 o5:Obj) (d:Addr) (o:Obj),h.get? d=some o->(((((h.push o1).push o2).push o3).push o4).push o5).get? d=some o:=λ h o1 o2 o3 o4 o5 d o e=>
   Heap.get?_push_of_some _ (Heap.get?_push_of_some _ (Heap.get?_push_of_some _ (Heap.get?_push_of_some _ (Heap.get?_push_of_some _ e))))
  have q5:∀ (h:Heap) (o1 o2 o3 o4 o5:Obj),o5.isFreed=false->(((((h.push o1).push o2).push o3).push o4).push o5).get? (h.objs.size+4)=some o5:=λ h o1 o2 o3 o4 o5 f=>by
   have e:h.objs.size+4=((((h.push o1).push o2).push o3).push o4).objs.size:=by simp only[Heap.size_push]
   rw[e];exact Heap.get?_push_size _ f
  have q4:∀ (h:Heap) (o1 o2 o3 o4 o5:Obj),o4.isFreed=false->(((((h.push o1).push o2).push o3).push o4).push o5).get? (h.objs.size+3)=some o4:=λ h o1 o2 o3 o4 o5 f=>by
   have e:h.objs.size+3=(((h.push o1).push o2).push o3).objs.size:=by simp only[Heap.size_push]
   rw[e];exact Heap.get?_push_of_some _ (Heap.get?_push_size _ f)
  have q3:∀ (h:Heap) (o1 o2 o3 o4 o5:Obj),o3.isFreed=false->(((((h.push o1).push o2).push o3).push o4).push o5).get? (h.objs.size+2)=some o3:=λ h o1 o2 o3 o4 o5 f=>by
   have e:h.objs.size+2=((h.push o1).push o2).objs.size:=by simp only[Heap.size_push]
   rw[e];exact Heap.get?_push_of_some _ (Heap.get?_push_of_some _ (Heap.get?_push_size _ f))
  have q2:∀ (h:Heap) (o1 o2 o3 o4 o5:Obj),o2.isFreed=false->(((((h.push o1).push o2).push o3).push o4).push o5).get? (h.objs.size+1)=some o2:=λ h o1 o2 o3 o4 o5 f=>by
   have e:h.objs.size+1=(h.push o1).objs.size:=by simp only[Heap.size_push]
   rw[e];exact Heap.get?_push_of_some _ (Heap.get?_push_of_some _ (Heap.get?_push_of_some _ (Heap.get?_push_size _ f)))
  have q1:∀ (h:Heap) (o1 o2 o3 o4 o5:Obj),o1.isFreed=false->(((((h.push o1).push o2).push o3).push o4).push o5).get? h.objs.size=some o1:=λ h o1 o2 o3 o4 o5 f=>
   Heap.get?_push_of_some _ (Heap.get?_push_of_some _ (Heap.get?_push_of_some _ (Heap.get?_push_of_some _ (Heap.get?_push_size _ f))))
  exact⟨⟨_,q5 _ _ _ _ _ _ rfl,rfl⟩,k _ ⟨q5 _ _ _ _ _ _ rfl,q3 _ _ _ _ _ _ rfl,⟨_,_,q4 _ _ _ _ _ _ rfl⟩,⟨_,q1 _ _ _ _ _ _ rfl,rfl,rfl⟩,⟨_,q2 _ _ _ _ _ _ rfl,rfl,rfl⟩⟩ λ d o e=>p _ _ _ _ _ _ d o e⟩
end
def tM (c:Bool)(K:PySem.W.Frag)(H:Hp)(a:Addr)(xs:List V):Prop:=if c=true then hW K H a xs else fB K H a xs
theorem Inv.CV {X:Cx}{pins:List (Addr × Obj)}{σ:St}{H:Hp}{s:Shared}{c:Bool}{a:Addr}{xs:List V}(I:Inv X pins σ H s)(h:tM c X.K H a xs):∃ its:List Value,Vals xs its/\ow c s.heap a its.toArray:=by
 cases c with
 | true=>obtain⟨its,r,p,_⟩:=I.tuple (show hW X.K H a xs from h);exact⟨its,r,p⟩
 | false=>obtain⟨its,r,p,_⟩:=I.list (show fB X.K H a xs from h);exact⟨its,r,p.isList⟩
theorem Inv.rY {X:Cx}{pins:List (Addr × Obj)}{σ:St}{H:Hp}{s:Shared}{c:Bool}{a:Addr}{xs ys:List V}(I:Inv X pins σ H s)(h:tM c X.K H a xs)(k:tM c X.K H a ys):xs=ys:=by
 cases c with
 | true=>exact I.mU (show hW X.K H a xs from h) k
 | false=>exact I.pN (show fB X.K H a xs from h) k
def Rg (c:Bool)(K:PySem.W.Frag)(a b:Addr):It:=
  ⟨λ i H=>∃ xs ys x y,tM c K H a xs/\tM c K H b ys/\xs[i]? = some x/\ys[i]? = some y,
   λ i H v H'=>∃ T x y,v=.ref T/\H T=none/\H'=upd H T (.tup [x,y])/\∀ xs ys,tM c K H a xs->tM c K H b ys->xs[i]? = some x/\ys[i]? = some y,
   λ i H=>∃ xs ys,tM c K H a xs/\tM c K H b ys/\(xs.length<=i∨ys.length<=i)⟩
theorem zm {P:Program}{w:World}{K:PySem.W.Frag}{es:List Expr}{kk:Nat}{mV:Pos}(c:Bool)(l m z a b i j:Addr)(D:ZipApart z a b i j l m) :
  Turn P w K (.Tuple es kk mV) (Rg c K l m) [z,a,b,i,j] z (λ n h=>ZK c c h z a b i j l m n) where
 mem:=by simp
 obj:=λ n h st d hd=>by
  obtain⟨hz,Cp,⟨p1,p2,EU⟩,h1,h2⟩:=st
  simp only[List.mem_cons,List.not_mem_nil,or_false]at hd
  rcases hd with rfl|rfl|rfl|rfl|rfl
  ·exact⟨_,hz,λ v e=>nomatch e⟩
  ·exact⟨_,Cp,λ v e=>nomatch e⟩
  ·exact⟨_,EU,λ v e=>nomatch e⟩
  ·exact h1.obj
  ·exact h2.obj
 keep:=λ n h h' st k=>by
  obtain⟨hz,Cp,⟨p1,p2,EU⟩,h1,h2⟩:=st
  exact⟨k z (by simp) _ hz,k a (by simp) _ Cp,⟨p1,p2,k b (by simp) _ EU⟩,h1.at λ o e=>k i (by simp) o e,h2.at λ o e=>k j (by simp) o e⟩
 item:=by
  intro X hP hw hK hc n pins s σ H E I hf st hg
  subst hP hw hK
  obtain⟨xs,ys,x,y,Nq,Np,hx,hy⟩:=hg
  obtain⟨Lr,r1,p1⟩:=I.CV Nq
  obtain⟨dm,r2,p2⟩:=I.CV Np
  obtain⟨u1,e1,GO⟩:=r1.get hx
  obtain⟨u2,e2,Og⟩:=r2.get hy
  refine CB D st p1 p2 (by simpa using e1) (by simpa using e2) λ h' z1 a1 b1 i1 j1 T1 kp=>?_
  refine⟨_,rfl,wpAny_letOwnedTupleGo_zip (s:={ s with heap:=h' }) z1 λ h2 z2 t2=>?_⟩
  have Q2:H s.heap.objs.size=none:=I.aX.fresh (Nat.le_refl _)
  have zT:s.heap.objs.size≠z:=Nat.ne_of_gt (Heap.lt_size (show s.heap.get? z=some _ from st.zz))
  have oF:∀ d o,d∉[z,a,b,i,j]->s.heap.get? d=some o->h2.get? d=some o:=λ d o hd e=>by
   simp only[List.mem_cons,List.not_mem_nil,or_false,not_or]at hd
   exact t2.extBut _ _ hd.1 (kp d o hd.1 hd.2.2.1 hd.2.2.2.1 hd.2.2.2.2 e)
  have T2:IsPair h2 s.heap.objs.size u1 u2:=t2.extBut _ _ zT T1
  have Az:∀ d o,H d=some o->d∉[z,a,b,i,j]:=λ d o e hd=>by rw[(hf d hd).1]at e;cases e
  have nT:∀ d o,H d=some o->d≠s.heap.objs.size:=λ d o e q=>by rw[q,Q2]at e;cases e
  have newOk:jI X.prog X.w (upd H s.heap.objs.size (.tup [x,y])) h2:=by
   intro d o e
   by_cases hd:d=s.heap.objs.size
   ·subst hd
    rw[aw]at e
    cases e
    exact⟨by show 2<=sizeLine;decide,[u1,u2],.cons GO (.cons Og .nil),_,T2,rfl,0,rfl⟩
   ·rw[ah hd]at e
    refine(I.aX d o e).ly (λ q v hq r=>oF q v ?_ r) (λ q r=>by rw[ah (nT q _ r)];exact r) (λ q Gj r=>by rw[ah (nT q _ r)];exact r)
    rcases hq with rfl|hq
    ·exact Az _ _ e
    ·exact Az _ _ hq
  have I2:Inv X pins σ (upd H s.heap.objs.size (.tup [x,y])) { s with heap:=h2 }:=by
   refine I.step (g':=s.gens) (d':=s.drawn) (t':=s.toks) (ch:=[z,a,b,i,j]) (λ d hd=>⟨(hf d hd).2.2.2.1,(hf d hd).2.1,(hf d hd).2.2.2.2.1,(hf d hd).2.2.2.2.2⟩) (λ d o _ _ hd e _=>oF d o hd e) (λ d o _ _ hd e _=>⟨o.slots,oF d o hd e⟩)
    (λ d o hd e nn=>by rw[ah (Nat.ne_of_lt (Heap.lt_size e))];exact nn) (λ d o hd e=>⟨o,oF d o hd e⟩) (λ d Gj e=>by rw[ah (nT d _ e)];exact e) (λ d o u e=>by rw[ah (nT d _ e)];exact e)
    (λ d ps e=>⟨#[],by rw[ah (nT d _ e),e];simp⟩) (λ mm hm=>?_) newOk I.bare
   obtain⟨o,BH,ep,ho,r⟩:=hm
   exact⟨o,BH,ep,oF _ o (λ hd=>(hf _ hd).2.1 rfl) ho,r⟩
  refine⟨.ref s.heap.objs.size,_,I2,rfl,⟨_,x,y,rfl,Q2,rfl,λ Gj Tn k1 k2=>?_⟩,?_,λ d hd=>?_⟩
  ·rw[I.rY k1 Nq,I.rY k2 Np]
   exact⟨hx,hy⟩
  ·exact⟨z2,t2.extBut _ _ D.TIz a1,⟨_,_,t2.extBut _ _ D.TOz b1⟩,i1.at λ o e=>t2.extBut _ _ D.i1z e,j1.at λ o e=>t2.extBut _ _ D.i2z e⟩
  ·have Py:d≠s.heap.objs.size:=by
    rintro rfl
    have lt:∀ {q:Addr}{o:Obj},s.heap.get? q=some o->s.heap.objs.size≠q:=λ e=>Nat.ne_of_gt (Heap.lt_size e)
    simp only[List.mem_cons,List.not_mem_nil,or_false]at hd
    obtain⟨o1,g1,_⟩:=st.i1.obj
    obtain⟨o2,g2,_⟩:=st.i2.obj
    obtain⟨y1,y2,g3⟩:=st.out
    rcases hd with q|q|q|q|q
    ·exact lt st.zz q
    ·exact lt st.ins q
    ·exact lt g3 q
    ·exact lt g1 q
    ·exact lt g2 q
   rw[ah Py]
   exact(hf d hd).1
 done:=by
  intro X hP hw hK hc n pins s σ H E I hf st hg
  subst hP hw hK
  obtain⟨xs,ys,Nq,Np,hx⟩:=hg
  obtain⟨Lr,r1,p1⟩:=I.CV Nq
  obtain⟨dm,r2,p2⟩:=I.CV Np
  have n1:=r1.length
  have n2:=r2.length
  refine Gi (I.ok.hd hc) D st p1 p2 (hx.elim (λ q=>.inl (by simp;omega)) λ q=>.inr (by simp;omega)) λ h' kp=>⟨rfl,?_⟩
  have oF:∀ d o,d∉[z,a,b,i,j]->s.heap.get? d=some o->h'.get? d=some o:=λ d o hd e=>by
   simp only[List.mem_cons,List.not_mem_nil,or_false,not_or]at hd
   exact kp d o hd.1 hd.2.2.1 hd.2.2.2.1 hd.2.2.2.2 e
  have Az:∀ d o,H d=some o->d∉[z,a,b,i,j]:=λ d o e hd=>by rw[(hf d hd).1]at e;cases e
  have there:∀ d o,s.heap.get? d=some o->d∉[z,a,b,i,j]->∃ o',h'.get? d=some o':=λ d o e hd=>⟨o,oF d o hd e⟩
  refine I.step (g':=s.gens) (d':=s.drawn) (t':=s.toks) (ch:=[z,a,b,i,j]) (λ d hd=>⟨(hf d hd).2.2.2.1,(hf d hd).2.1,(hf d hd).2.2.2.2.1,(hf d hd).2.2.2.2.2⟩) (λ d o _ _ hd e _=>oF d o hd e) (λ d o _ _ hd e _=>⟨o.slots,oF d o hd e⟩)
   (λ d o hd e nn=>nn) (λ d o hd e=>⟨o,oF d o hd e⟩) (λ d Gj e=>e) (λ d o u e=>e) (λ d ps e=>⟨#[],by rw[e];simp⟩) (λ mm hm=>?_) (λ d o e=>?_) I.bare
  ·obtain⟨o,BH,ep,ho,r⟩:=hm
   exact⟨o,BH,ep,oF _ o (λ hd=>(hf _ hd).2.1 rfl) ho,r⟩
  ·refine(I.aX d o e).ly (λ q v hq r=>oF q v ?_ r) (λ _ r=>r) (λ _ _ r=>r)
   rcases hq with rfl|hq
   ·exact Az _ _ e
   ·exact Az _ _ hq
 self:=λ _ _ _ _ _ st h=>wpAny_pyIter_zip st.zz h
def O5 (K:PySem.W.Frag)(t:TA):TI:=λ σ H R=>t σ H λ vs H2=>∃ (c:Bool) (a b:Addr),vs=[.ref a,.ref b]/\(∃ xs,tM c K H2 a xs)/\(∃ ys,tM c K H2 b ys)/\R (Rg c K a b) H2
theorem G9 {X:Cx}{es:List Expr}{kk:Nat}{mV:Pos}{e1 e2:Expr}{ta tb:TE}{p pos:Pos}(hg:Gl X "zip")(hm:X.mg "zip"=none)(h1:PE X e1 ta)(h2:PE X e2 tb)
  (hs:starEach [e1,e2] X.env=(false,eval e1 X.env) :: starEach [e2] X.env:=by rfl) (JA:starEach [e2] X.env=[(false,eval e2 X.env)]:=by rfl) (fj:(backTo pos (starEach [e2] X.env)).any (·.1)=false:=by rfl) :
  PI X (.Tuple es kk mV) (.Call (.Name "zip" p) [e1,e2] [] pos) (O5 X.K (qK ta (qK tb ub))):=by
 intro pins s σ H R I h
 refine wpAny_Call_Name_kw (lK I hg hm PyProof.Rows.boot_zip ?_)
 refine PyProof.Rows.callWith_type1 (bI ((cb h1 (cb h2 fF JA) hs) pos pins s σ H _ I h) λ us s1 ⟨vs,H1,I1,r1,q1⟩=>?_) hs fj
 obtain⟨c,a,b,rfl,⟨xs,hx⟩,⟨ys,hy⟩,q⟩:=q1
 obtain⟨u1,u2,rfl,GO,Og⟩:=vals2 r1
 cases GO
 cases Og
 obtain⟨Lr,_,p1⟩:=I1.CV hx
 obtain⟨dm,_,p2⟩:=I1.CV hy
 have a1:a < s1.heap.objs.size:=by
  cases c with
  | true=>obtain⟨_,e,_⟩:=(show s1.heap.IsTuple a _ from p1);exact Heap.lt_size e
  | false=>obtain⟨_,e,_⟩:=(show s1.heap.IsList a _ from p1);exact Heap.lt_size e
 have a2:b < s1.heap.objs.size:=by
  cases c with
  | true=>obtain⟨_,e,_⟩:=(show s1.heap.IsTuple b _ from p2);exact Heap.lt_size e
  | false=>obtain⟨_,e,_⟩:=(show s1.heap.IsList b _ from p2);exact Heap.lt_size e
 refine yS p1 p2 λ h' Z kp=>?_
 refine wpAny_pyIter_zip (s:={ s1 with heap:=h' }) Z.zz ?_
 refine⟨_,_,_,_,H1,rfl,I1.kept (t':=s1.toks) kp,zm c a b _ _ _ _ _ (zipApart_new a1 a2),Z,λ d hd=>?_,q⟩
 have hle:s1.heap.objs.size<=d:=by
  simp only[List.mem_cons,List.not_mem_nil,or_false]at hd
  rcases hd with rfl|rfl|rfl|rfl|rfl
  ·exact Nat.le_add_right _ _
  ·exact Nat.le_add_right _ _
  ·exact Nat.le_add_right _ _
  ·exact Nat.le_refl _
  ·exact Nat.le_add_right _ _
 exact I1.v7 hle (I1.aX.fresh hle)
end L2
namespace L2
open PySem PySem.Spec PyProof.Rows
def Rh (K:PySem.W.Frag)(a:Addr):It:=
  ⟨λ i H=>∃ xs x,fB K H a xs/\xs[i]? = some x,
   λ i H v H'=>∃ T x,v=.ref T/\H T=none/\H'=upd H T (.tup [.int (i:Int),x])/\∀ xs,fB K H a xs->xs[i]? = some x,
   λ i H=>∃ xs,fB K H a xs/\xs.length<=i⟩
structure EK (h:Heap)(e it l:Addr)(k:Nat):Prop where
 ee:∃ old,IsEnum h e it k old
 ii:h.IsListIter it l k
theorem xS {P:Program}{w:World}{K:PySem.W.Frag}{es:List Expr}{kk:Nat}{mV:Pos}(l e it:Addr)(QU:e≠it) :
  Turn P w K (.Tuple es kk mV) (Rh K l) [e,it] e (λ n h=>EK h e it l n) where
 mem:=by simp
 obj:=λ n h st d hd=>by
  obtain⟨⟨old,he⟩,o,ho,_,dd⟩:=st
  simp only[List.mem_cons,List.not_mem_nil,or_false]at hd
  rcases hd with rfl|rfl
  ·exact⟨_,he,λ v z=>nomatch z⟩
  ·exact⟨o,ho,λ v z=>by rw[dd]at z;cases z⟩
 keep:=λ n h h' st k=>by
  obtain⟨⟨old,he⟩,o,ho,r⟩:=st
  exact⟨⟨old,k e (by simp) _ he⟩,o,k it (by simp) o ho,r⟩
 item:=by
  intro X hP hw hK hc n pins s σ H E I hf st hg
  subst hP hw hK
  obtain⟨xs,x,hq,hx⟩:=hg
  obtain⟨its,r1,p1⟩:=I.CV (c:=false) hq
  obtain⟨u1,e1,GO⟩:=r1.get hx
  obtain⟨⟨old,he⟩,hit⟩:=st
  have hT:H s.heap.objs.size=none:=I.aX.fresh (Nat.le_refl _)
  have eT:s.heap.objs.size≠e:=Nat.ne_of_gt (Heap.lt_size (show s.heap.get? e=some _ from he))
  have iT:s.heap.objs.size≠it:=by obtain⟨o,ho,_⟩:=hit;exact Nat.ne_of_gt (Heap.lt_size ho)
  refine wpAny_pyNext_enum_item he hit p1 (by simpa using e1) QU λ h' z1 i1 T1 _ kp=>?_
  refine⟨_,rfl,wpAny_letOwnedTupleGo_enum (s:={ s with heap:=h',toks:=s.toks+1 }) z1 λ h2 z2 t2=>?_⟩
  have oF:∀ d o,d∉[e,it]->s.heap.get? d=some o->h2.get? d=some o:=λ d o hd q=>by
   simp only[List.mem_cons,List.not_mem_nil,or_false,not_or]at hd
   exact(t2.2 d hd.1).trans (kp d o hd.1 hd.2 q)
  have T2:h2.get? s.heap.objs.size=some { cls:=.type "tuple",data:=.seq #[.int (n:Int) s.toks,u1] }:=(t2.2 _ eT).trans T1
  have Az:∀ d o,H d=some o->d∉[e,it]:=λ d o q hd=>by rw[(hf d hd).1]at q;cases q
  have nT:∀ d o,H d=some o->d≠s.heap.objs.size:=λ d o q z=>by rw[z,hT]at q;cases q
  have newOk:jI X.prog X.w (upd H s.heap.objs.size (.tup [.int (n:Int),x])) h2:=by
   intro d o q
   by_cases hd:d=s.heap.objs.size
   ·subst hd
    rw[aw]at q
    cases q
    exact⟨by show 2<=sizeLine;decide,[.int (n:Int) s.toks,u1],.cons ⟨_,rfl⟩ (.cons GO .nil),_,T2,rfl,0,rfl⟩
   ·rw[ah hd]at q
    refine(I.aX d o q).ly (λ a v ha r=>oF a v ?_ r) (λ a r=>by rw[ah (nT a _ r)];exact r) (λ a Gj r=>by rw[ah (nT a _ r)];exact r)
    rcases ha with rfl|ha
    ·exact Az _ _ q
    ·exact Az _ _ ha
  have I2:Inv X pins σ (upd H s.heap.objs.size (.tup [.int (n:Int),x])) { s with heap:=h2,toks:=s.toks+1 }:=by
   refine I.step (g':=s.gens) (d':=s.drawn) (t':=s.toks+1) (ch:=[e,it]) (λ d hd=>⟨(hf d hd).2.2.2.1,(hf d hd).2.1,(hf d hd).2.2.2.2.1,(hf d hd).2.2.2.2.2⟩) (λ d o _ _ hd q _=>oF d o hd q) (λ d o _ _ hd q _=>⟨o.slots,oF d o hd q⟩)
    (λ d o hd q nn=>by rw[ah (Nat.ne_of_lt (Heap.lt_size q))];exact nn) (λ d o hd q=>⟨o,oF d o hd q⟩) (λ d Gj q=>by rw[ah (nT d _ q)];exact q) (λ d o u q=>by rw[ah (nT d _ q)];exact q)
    (λ d ps q=>⟨#[],by rw[ah (nT d _ q),q];simp⟩) (λ mm hm=>?_) newOk I.bare
   obtain⟨o,BH,ep,ho,r⟩:=hm
   exact⟨o,BH,ep,oF _ o (λ hd=>(hf _ hd).2.1 rfl) ho,r⟩
  refine⟨.ref s.heap.objs.size,_,I2,rfl,⟨_,x,rfl,hT,rfl,λ Gj k1=>?_⟩,?_,λ d hd=>?_⟩
  ·rw[I.rY (c:=false) k1 hq]
   exact hx
  ·refine⟨⟨_,by simpa using z2⟩,?_⟩
   obtain⟨o,ho,r⟩:=i1
   exact⟨o,(t2.2 it QU.symm).trans ho,r⟩
  ·have Py:d≠s.heap.objs.size:=by
    rintro rfl
    simp only[List.mem_cons,List.not_mem_nil,or_false]at hd
    rcases hd with q|q
    ·exact eT q
    ·exact iT q
   rw[ah Py]
   exact(hf d hd).1
 done:=by
  intro X hP hw hK hc n pins s σ H E I hf st hg
  subst hP hw hK
  obtain⟨xs,hq,hx⟩:=hg
  obtain⟨its,r1,p1⟩:=I.CV (c:=false) hq
  have n1:=r1.length
  obtain⟨⟨old,he⟩,hit⟩:=st
  refine wpAny_pyNext_enum_end (I.ok.hd hc) he hit p1 (by simp;omega) λ h' kp=>⟨rfl,?_⟩
  have oF:∀ d o,d∉[e,it]->s.heap.get? d=some o->h'.get? d=some o:=λ d o hd q=>by
   simp only[List.mem_cons,List.not_mem_nil,or_false,not_or]at hd
   exact kp d o hd.2 q
  have Az:∀ d o,H d=some o->d∉[e,it]:=λ d o q hd=>by rw[(hf d hd).1]at q;cases q
  refine I.step (g':=s.gens) (d':=s.drawn) (t':=s.toks) (ch:=[e,it]) (λ d hd=>⟨(hf d hd).2.2.2.1,(hf d hd).2.1,(hf d hd).2.2.2.2.1,(hf d hd).2.2.2.2.2⟩) (λ d o _ _ hd q _=>oF d o hd q) (λ d o _ _ hd q _=>⟨o.slots,oF d o hd q⟩)
   (λ d o hd q nn=>nn) (λ d o hd q=>⟨o,oF d o hd q⟩) (λ d Gj q=>q) (λ d o u q=>q) (λ d ps q=>⟨#[],by rw[q];simp⟩) (λ mm hm=>?_) (λ d o q=>?_) I.bare
  ·obtain⟨o,BH,ep,ho,r⟩:=hm
   exact⟨o,BH,ep,oF _ o (λ hd=>(hf _ hd).2.1 rfl) ho,r⟩
  ·refine(I.aX d o q).ly (λ a v ha r=>oF a v ?_ r) (λ _ r=>r) (λ _ _ r=>r)
   rcases ha with rfl|ha
   ·exact Az _ _ q
   ·exact Az _ _ ha
 self:=λ _ _ _ _ _ st h=>by
  obtain⟨⟨old,he⟩,_⟩:=st
  exact wpAny_pyIter_enum he h
def Lx (K:PySem.W.Frag)(t:TA):TI:=λ σ H R=>t σ H λ vs H2=>∃ a,vs=[.ref a]/\(∃ xs,fB K H2 a xs)/\R (Rh K a) H2
theorem Dx {X:Cx}{es:List Expr}{kk:Nat}{mV:Pos}{e1:Expr}{ta:TE}{p pos:Pos}(hg:Gl X "enumerate")(hm:X.mg "enumerate"=none)(h1:PE X e1 ta)
  (hs:starEach [e1] X.env=(false,eval e1 X.env) :: starEach [] X.env:=by rfl) (fj:(backTo pos (starEach [] X.env)).any (·.1)=false:=by rfl) :
  PI X (.Tuple es kk mV) (.Call (.Name "enumerate" p) [e1] [] pos) (Lx X.K (qK ta ub)):=by
 intro pins s σ H R I h
 refine wpAny_Call_Name_kw (lK I hg hm PyProof.Rows.boot_enumerate ?_)
 refine PyProof.Rows.callWith_type1 (bI ((cb h1 fF hs) pos pins s σ H _ I h) λ us s1 ⟨vs,H1,I1,r1,q1⟩=>?_) hs fj
 obtain⟨a,rfl,⟨xs,hx⟩,q⟩:=q1
 obtain⟨u1,rfl,GO⟩:=r1.one
 cases (show u1=Value.ref a from GO)
 obtain⟨its,_,p1⟩:=I1.CV (c:=false) hx
 refine call_enumerate_list p1 λ h' z i _ kp=>?_
 refine wpAny_pyIter_enum (s:={ s1 with heap:=h' }) z ?_
 refine⟨_,_,_,_,H1,rfl,I1.kept (t':=s1.toks) kp,xS a (s1.heap.objs.size+1) s1.heap.objs.size (Nat.succ_ne_self _),⟨⟨_,z⟩,i⟩,λ d hd=>?_,q⟩
 have hle:s1.heap.objs.size<=d:=by
  simp only[List.mem_cons,List.not_mem_nil,or_false]at hd
  rcases hd with rfl|rfl
  ·exact Nat.le_succ _
  ·exact Nat.le_refl _
 exact I1.v7 hle (I1.aX.fresh hle)
end L2
namespace L2
open PySem PySem.Spec PyProof.Rows
end L2
namespace L2
open PySem PySem.Spec PyProof.Rows
theorem hW.const {K:PySem.W.Frag}{H:Hp}{a:Addr}{od:Option Addr}{its:Array Value}{n:Nat}{sl:Array (Option Value)}{xs:List V}(h:K.lookup a=some ⟨.type "tuple",od,.seq its n,sl⟩)(v:Vals xs its.toList)(hz:xs.length<=1000):hW K H a xs:=
 .inr ⟨_,its,n,h,rfl,rfl,by
  have h2:xs.length=its.size:=v.length
  rw[<-h2]
  exact Nat.le_of_lt (bZ hz),v⟩
end L2
namespace L2
open PySem PySem.Spec PyProof.Rows
open PySem.Builtin.Str in
def GR:V->List V->Hp->VK->Prop:=λ x vs H Q=>∃ t sep,x=.str t/\vs=[.str sep]/\(decide (t.length < sep.length) || decide (strKind t < strKind sep))=false/\(sep.length == 0)=false/\(occurrences t sep 0 t.length (t.length+1)).isEmpty=false/\t.length<=1000/\
 (partsBetween t (occurrences t sep 0 t.length (t.length+1)) sep.length).length<=1000/\∀ l,H l=none->Q (.ref l) (upd H l (.lst ((partsBetween t (occurrences t sep 0 t.length (t.length+1)) sep.length).map V.str)))
theorem k9:∀ (n:Nat)(l:List Str),Vals (l.map V.str) (strsFrom n l)
 | _,[]=>.nil
 | n,x :: r=>.cons ⟨n,rfl⟩ (k9 (n+1) r)
theorem AJ {X:Cx}:Cy X "str.split" GR:=by
 intro pins s σ H x vs v us Q I rx rv h
 obtain⟨t,sep,rfl,rfl,h1,hy,hf,hz,hn,q⟩:=h
 obtain⟨tk,rfl⟩:=rx
 obtain⟨u,rfl,ru⟩:=rv.one
 obtain⟨Rn,rfl⟩:=ru
 refine call_meets F.slot_str_split ((vj (T:="str") (x:=.str t) I ⟨tk,rfl⟩ rfl).1) F.entry_str_split (F.args_str_split_2 _ _) (meets_str_split_sep t sep tk Rn h1 hy hf (Nat.le_of_lt (bZ hz)) (Nat.le_of_lt (bZ hn))) ?_
 refine⟨.ref s.heap.objs.size,_,I.Iu (t':=_) (k9 s.toks _) ?_,rfl,q _ I.fresh⟩
 rw[List.length_map]
 exact Nat.le_of_lt (bZ hn)
theorem Ak {X:Cx}{K:PySem.W.Frag}{o e:Expr}{es:List Expr}{to:TE}{t:TA}{name:Str}{apos bE:Pos}{T id:String}{r:V->List V->Hp->VK->Prop}(hK:X.K=K)(pa:PlainAttrs T)(slot:Slot T name id)(EL:typeOf (.builtin id)=pure (.type "method_descriptor")) (hm:Cy X id r)(ho:PE X o to)(ha:PA X (e :: es) t)
  (kj:attributeBase o name X.env (eval o X.env)=eval o X.env:=by rfl)
  (vX:((backTo bE (starEach (e :: es) X.env)).all (λ x=>!x.1) && (backToKw bE (keywordEach [] X.env)).all (λ x=>x.1.isSome)
   && decide ((e :: es).length+([]:List Keyword).length+(if ([]:List Keyword).isEmpty then 0 else 1) < 30))=true:=by rfl)
  (ki:(apos.endLine == bE.line)=true:=by rfl) (hs:starEach (e :: es) X.env=(false,eval e X.env) :: starEach es X.env:=by rfl) (lM:(backTo bE (starEach es X.env)).any (·.1)=false:=by rfl) :
  PE X (.Call (.Attribute o name apos) (e :: es) [] bE) (N_ K T r to t):=by subst hK;exact Ku pa slot EL hm ho ha kj vX ki hs lM
theorem Lp {n:Nat}{i:Int}(h0:0<=i)(h1:i < n):seqIndex? i n=some i.toNat:=by
 have:w6 n i=some i.toNat:=by
  unfold w6
  rw[if_pos h0,if_pos h1]
 exact(sL this).1
end L2
namespace HT
open PySem PyProof.Rows
section
variable {prog:Program}{w:World}{A:Around}{E:Value->Shared->Prop}{s:Shared}
theorem kX {t sl:Addr}{items:Array Value}{vl vu:Value}{lo hi:Option Int}{Q:Value->Shared->Prop}(ht:IsTup s.heap t items)(hs:s.heap.IsSliceOf sl vl vu .none)(pl:IsPart vl lo)(pu:IsPart vu hi)
  (h1:dB items.size 0 lo=0) (h2:dB items.size items.size hi=items.size) (h:Q (.ref t) s):wpAny (model prog w) A (getItem (.ref t) (.ref sl)) Q E s:=by
 obtain⟨os,IL,Nw,LJ⟩:=id hs
 have PK:s.TypeIs (.ref sl) "slice":=⟨os,IL,Nw⟩
 unfold getItem
 try with_reducible refine wpAny_holding ?_
 first|refine wpAny_bind (wpAny_pure ?_)|skip
 refine wpAny_bind (wpAny_sequenceKey ht.typeIs (by decide) ?_)
 refine wpAny_bind (wpAny_callSpecial?_slot (name:=Str.ofString "__getitem__") ht.typeIs PyProof.Rows.slot_tuple_getitem
  (wpAny_call_entry PyProof.Rows.slot_tuple_getitem ht.typeIs entry_tuple_getitem ?_ (args_tuple_getitem _ _)))
 show wpAny _ _ (Builtin.Tuple.tupleItemsOf (.ref t) >>= _) _ _ s
 refine wpAny_bind (tupleItemsOf_ ht ?_)
 refine wpAny_bind (wpAny_typeOf PK ?_)
 rw[if_pos (by decide)]
 refine wpAny_bind (iS hs pl pu ?_)
 have O6:((((dB items.size 0 lo:Nat):Int) == 0 && (1:Int) == 1 && (dB items.size items.size hi - dB items.size 0 lo) == items.size)=true):=by
  rw[h1,h2];simp
 show wpAny _ _ (if (((dB items.size 0 lo:Nat):Int) == 0 && (1:Int) == 1 && (dB items.size items.size hi - dB items.size 0 lo) == items.size)=true then _ else _) _ _ s
 rw[if_pos O6]
 unfold Builtin.Tuple.tupleIsExact
 refine wpAny_bind (wpAny_bind (wpAny_typeOf ht.typeIs (wpAny_pure ?_)))
 rw[if_pos (by decide)]
 first
  | exact wpAny_bind (wpAny_rule (wpAny_pure ⟨_,rfl,wpAny_pure h⟩))
  | exact wpAny_bind (wpAny_rule (wpAny_bind (wpAny_pure (wpAny_pure ⟨_,rfl,wpAny_pure h⟩))))
end
end HT
namespace L2
open PySem PySem.Spec PyProof.Rows
def GX (K:PySem.W.Frag):R2:=λ x y H Q=>∃ a b xs ys,x=.ref a/\y=.ref b/\hW K H a xs/\hW K H b ys/\ys≠[]/\xs.length+ys.length<=sizeLine/\
 (xs=[]->Q (.ref b) H)/\(xs≠[]->∀ p,H p=none->Q (.ref p) (upd H p (.tup (xs++ys))))
theorem Ap {X:Cx}:iC X (binaryOp .Add) (GX X.K):=by
 intro pins s σ H x y v u Q I rx ry h
 obtain⟨a,b,xs,ys,rfl,rfl,ha,hb,hy,hz,q1,q2⟩:=h
 by_cases hx:xs=[]
 ·cases rx
  cases ry
  obtain⟨its,r1,p1,_⟩:=I.tuple ha
  obtain⟨dm,r2,p2,_⟩:=I.tuple hb
  obtain⟨⟨cls,dd,data,sl⟩,ho,hc,n,hd⟩:=id p1
  obtain⟨⟨P5,Mf,data2,Nc⟩,cZ,LP,n2,hd2⟩:=id p2
  simp only at hc hd LP hd2
  subst hc hd LP hd2
  have he:its=[]:=r1.oE.mpr hx
  exact concat_meets ⟨_,ho,rfl⟩ ⟨_,cZ,rfl⟩ noFill_tuple_add seq_tuple_add PySem.F.slot_tuple_add PySem.F.entry_tuple_add (PySem.F.args_tuple_add_2 _ _)
   (tuple_addW0 a b its.toArray dm.toArray n n2 dd Mf sl Nc (by simp[he])) ⟨ho,cZ,⟨.ref b,H,I,rfl,q1 hx⟩⟩
 ·exact DK pins s σ H (.ref a) (.ref b) v u Q I rx ry ⟨a,b,xs,ys,rfl,rfl,ha,hb,hx,hz,λ z=>absurd z hy,λ _=>q2 hx⟩
def Ke (K:PySem.W.Frag):V->Option Int->Option Int->Hp->VK->Prop:=λ x lo hi H Q=>∃ a xs,x=.ref a/\hW K H a xs/\
 ((HT.dB xs.length 0 lo=0/\HT.dB xs.length xs.length hi=xs.length)->Q (.ref a) H)/\(¬ (HT.dB xs.length 0 lo=0/\HT.dB xs.length xs.length hi=xs.length)->∀ p,H p=none->Q (.ref p) (upd H p (.tup (qb xs lo hi))))
theorem C2 {X:Cx}:M4 X (Ke X.K):=by
 intro pins s σ H x v vl vu lo hi sl Q I rx hs pl pu h
 obtain⟨a,xs,rfl,hx,q1,q2⟩:=h
 by_cases hw:HT.dB xs.length 0 lo=0/\HT.dB xs.length xs.length hi=xs.length
 ·cases rx
  obtain⟨its,r,ht,hz⟩:=I.tuple hx
  have hlen:its.toArray.size=xs.length:=by rw[List.size_toArray];exact r.length.symm
  refine⟨"tuple",_,PyProof.Rows.slot_tuple_getitem.lookup,ht.typeIs,?_⟩
  exact HT.kX ht hs pl pu (by rw[hlen];exact hw.1) (by rw[hlen];exact hw.2) ⟨.ref a,H,I,rfl,q1 hw⟩
 ·exact GH pins s σ H (.ref a) v vl vu lo hi sl Q I rx hs pl pu ⟨a,xs,rfl,hx,hw,q2 hw⟩
end L2
namespace L2
open PySem PySem.Spec PyProof.Rows
end L2
namespace L2
open PySem PySem.Spec PySem.W PyProof.Rows
section
variable {prog:Program}{w:World}{A:Around}{E:Value->Shared->Prop}{s:Shared}{K:PySem.W.Frag}{x C:Addr}{ox:Obj}{od:Option Obj}{name:Str}
structure Jo (K:PySem.W.Frag)(C:Addr):Prop where
 ga:PySem.W.findIn K (.ref C) "__getattribute__"=some (some (.builtin "BaseException.__getattribute__"))
 gx:PySem.W.findIn K (.ref C) "__getattr__"=some none
 sb:PySem.W.subIn K (.ref C) (.type "BaseException")=some true
theorem EY:builtinKind "BaseException.__getattribute__"=some .slot:=by decide +kernel
theorem Bx:splitId "BaseException.__getattribute__"=some ("BaseException","__getattribute__"):=by decide +kernel
theorem L5:(Value.builtin "BaseException.__getattribute__" == Value.builtin "object.__getattribute__")=false:=by decide +kernel
theorem yV {nameV:Value}{Q:Unit->Shared->Prop}(X:K.In s.heap)(I:InstAt s.heap x ox C od)(g:Jo K C)(hq:Q () s) :
  wpAny (model prog w) A (checkBuiltinCall "BaseException.__getattribute__" ⟨[.ref x,nameV],[]⟩) Q E s:=by
 have L0:=I.type (M:=model prog w)
 have L1:=looks_subIn (M:=model prog w) X g.sb
 have ha:=PySem.F.args_bexc_ga (.ref x) nameV
 simp only[checkBuiltinCall,EY,Bx]
 refine wpAny_bind ?_
 unfold isInstance
 refine wpAny_bind (L0.here (L1.here ?_))
 rw[if_neg (by decide)]
 unfold argsOk at ha
 split at ha
 ·rename_i sg e
  rw[e]
  dsimp only
  rw[ha]
  exact wpAny_pure hq
 ·rename_i e
  rw[e]
  exact wpAny_pure hq
theorem yW {tk:Tok}{gv a:Value}{Q:Fin->Shared->Prop}(X:K.In s.heap)(I:InstAt s.heap x ox C od)(hf:findObj K C od name=some (.bind gv a))
  (hq:wpAny (model prog w) A (call gv [a,.ref x,.ref C]) (λ v s'=>Q (.done (.ret v)) s') E s) :
  wpAny (model prog w) A (Builtin.«object.__getattribute__» ⟨[.ref x,.str name tk],[]⟩) Q E s:=by
 obtain⟨hh,gg,d,t,os⟩:=s
 have L0:=I.type (M:=model prog w)
 have L1:=looks_find (M:=model prog w) X I hf
 unfold Builtin.«object.__getattribute__»
 refine wpAny_bind (wpAny_pure ?_)
 refine wpAny_bind (wpAny_pure (wpAny_bind (L0.at (wpAny_bind (L1.at ?_)))))
 show wpAny _ _ (holding [a] (call gv [a,.ref x,.ref C]) >>= ret) _ _ _
 exact wpAny_bind (wpAny_holding (bI hq λ v s' z=>wpAny_pure z))
theorem JP {tk:Tok}{fill expr:Bool}{Q:Value->Shared->Prop}(X:K.In s.heap)(I:InstAt s.heap x ox C od)(g:Jo K C)
  (hq:wpAny (model prog w) A.in1 (Builtin.«object.__getattribute__» ⟨[.ref x,.str name tk],[]⟩) (λ f s'=>∃ v,f=.done (.ret v)/\handedIn v=true/\Q v s') (λ _ _=>False) s) :
  wpAny (model prog w) A (getAttrBy (.ref x) (.str name tk) fill expr) Q E s:=by
 have L0:=I.type (M:=model prog w)
 have L1:=looks_findIn (M:=model prog w) X g.ga
 have L2:=looks_findIn (M:=model prog w) X g.gx
 have ho:onTheHeap (Value.ref C)=true:=rfl
 unfold getAttrBy
 refine wpAny_holding (wpAny_bind (L0.here (wpAny_bind (L1.here ?_))))
 dsimp only
 rw[if_neg (by rw[L5,Bool.and_false];decide)]
 unfold getAttrByItsOwn hookBefore
 rw[if_pos ho]
 refine wpAny_bind (L2.here (wpAny_bind (wpAny_attempt (wpAny_holding ?_))))
 unfold callGetattribute
 rw[if_neg (by rw[show onTheHeap (Value.builtin "BaseException.__getattribute__")=false from rfl,Bool.and_false];decide)]
 unfold boundAndCalled
 refine wpAny_bind (wpAny_of_eq (PySem.F.attr_ValueError.ga.bind (.ref x)) ?_)
 refine wpAny_call (codeAny_call_builtin PySem.F.attr_ValueError.ga.plain PySem.F.entry_bexc_ga (yV X I g ?_))
 refine wpAny_mono hq (λ f s' z=>?_) (λ _ _ z=>z.elim)
 obtain⟨v,rfl,hh,q⟩:=z
 exact handed_on hh q
structure Fu (K:PySem.W.Frag)(C:Addr):Prop extends Jo K C where
 ca:PySem.W.findIn K (.ref C) "__class__"=some (some (.builtin "object.__class__"))
 cn:PySem.W.specialIn K (.builtin "object.__class__") "__get__"=some (some (.builtin "getset_descriptor.__get__"))
 ct:PySem.W.takesIn K (.builtin "object.__class__")=some true
 cm:PySem.W.mroIn K C (.type "object")=some true
 cl:(PySem.W.clsIn K C).isSome=true
theorem uK {a gv:Value}(hc:(PySem.W.clsIn K C).isSome=true) (ha:PySem.W.findIn K (.ref C) name=some (some a)) (hg:PySem.W.specialIn K a "__get__"=some (some gv)) (ht:PySem.W.takesIn K a=some true):findObj K C od name=some (.bind gv a):=by
 obtain⟨cd,hc⟩:=Option.isSome_iff_exists.mp hc
 simp[findObj,hc,ha,hg,ht]
theorem yU {Q:Option Value->Shared->Prop}(X:K.In s.heap)(I:InstAt s.heap x ox C od)(g:Fu K C)(hq:Q (some (.ref C)) { s with toks:=s.toks+1 }) :
  wpAny (model prog w) A (getAttr? (.ref x) "__class__") Q E s:=by
 unfold getAttr? getAttrBy?
 refine wpAny_bind (wpAny_mkText (wpAny_bind (wpAny_attempt ?_)))
 refine JP (s:={ s with toks:=s.toks+1 }) X I g.toJo (yW (s:={ s with toks:=s.toks+1 }) X I (uK g.cl g.ca g.cn g.ct) (wpAny_call (class_get (s:={ s with toks:=s.toks+1 }) (ox:=ox) (od:=od) X I g.cm ⟨_,rfl,rfl,?_⟩)))
 exact wpAny_pure hq
theorem xB (hc:(PySem.W.clsIn K C).isSome=true):∃ c1 d1 cd sl,K.lookup C=some ⟨c1,d1,.cls cd,sl⟩:=by
 unfold PySem.W.clsIn at hc
 split at hc
 ·exact⟨_,_,_,_,by assumption⟩
 ·cases hc
theorem uC (g:Fu K C):KitX K (.ref x) (.ref C) (λ h=>∃ ox od,InstAt h x ox C od) where
 ty:=λ _ _ _ ⟨_,_,I⟩=>I.type
 it:=λ _ _ X _ A' Q' E' s' k' q'=>by
  obtain⟨c1,d1,cd,sl,hl⟩:=xB g.cl
  show wpAny _ A' (isType (.ref C)) Q' E' s'
  unfold isType loadHead
  exact wpAny_bind (wpAny_loadPart (k' C _ (X C _ hl)) (wpAny_pure q'))
 ne:=λ h tp dd its n sl X QM=>by
  obtain⟨c1,d1,cd,Nd,hl⟩:=xB g.cl
  cases e:(Value.ref C == Value.ref tp) with
  | false=>rfl
  | true=>
   have e2:C=tp:=Value.ref.inj (beq_iff_eq.mp e)
   rw[<-e2,X C _ hl]at QM
   cases QM
 ca:=λ X ⟨_,_,I⟩ k=>yU X I g k
end
end L2
namespace L2
open PySem PySem.Spec PySem.W PyProof.Rows
abbrev oK:List Value:=[.type "ValueError",.type "Exception",.type "BaseException",.type "object"]
def zx (es:Array DictEntry):Bool:=es.toList.all λ en=>match en.key with|.str _ _=>true|_=>false
theorem zw {es:Array DictEntry}(h:zx es=true):StrKeys es:=by
 intro en he
 have q:=List.all_eq_true.mp h en (Array.mem_toList_iff.mpr he)
 cases k:en.key with
 | str n t=>exact⟨n,t,rfl⟩
 | _=>rw[k]at q;cases q
structure NM (K:PySem.W.Frag)(N:Addr)(m:Str->Option Value):Prop where
 ex:∃ nc nd es ep Nh,K.lookup N=some ⟨nc,nd,.dict es ep,Nh⟩/\zx es=true/\∀ x,nsFind es x=m x
theorem NM.ns {K:PySem.W.Frag}{N:Addr}{m:Str->Option Value}{h:Heap}(x:NM K N m)(X:K.In h):h.Ns N m:=by
 obtain⟨nc,nd,es,ep,Nh,l,q,e⟩:=x.ex
 exact⟨_,es,ep,X _ _ l,rfl,zw q,e⟩
inductive mQ (K:PySem.W.Frag):List Value->Prop
 | base:mQ K oK
 | own {B:Addr}{c0:Value}{dd:Option Addr}{cd:ClassData}{sl:Array (Option Value)}{m:Str->Option Value}{tl:List Value}(l:K.lookup B=some ⟨c0,dd,.cls cd,sl⟩) (n:NM K cd.ns m) (i:m "__init__"=none) (t:mQ K tl):mQ K (.ref B :: tl)
theorem mQ.Hn {K:PySem.W.Frag}{h:Heap}{l:List Value}(t:mQ K l)(X:K.In h):OwnTail h oK l:=by
 induction t with
 | base=>exact .base
 | own l n i _ ih=>exact .own (X _ _ l) (n.ns X) i ih
structure hV (K:PySem.W.Frag)(C:Addr)(nm:Str)(bm:List Value)(lX:Option Value):Prop where
 ex:∃ q N bs sn sub ab col dd k0 k1 k2 k3 k5 m,K.lookup C=some (excClassObj nm q C N bs bm true sn sub ab col dd k0 k1 k2 k3 k5 "ValueError.__new__")/\NM K N m/\m "__init__"=lX
 tail:mQ K bm
section
variable {K:PySem.W.Frag}{C:Addr}{nm:Str}{bm:List Value}{lX:Option Value}
theorem hV.cls (x:hV K C nm bm lX):∃ cd,PySem.W.clsIn K C=some cd/\cd.mro=.ref C :: bm/\cd.hasDict=true/\cd.name=nm:=by
 obtain⟨q,N,bs,sn,sub,ab,col,dd,k0,k1,k2,k3,k5,m,l,_⟩:=x.ex
 exact⟨_,by unfold PySem.W.clsIn;rw[l],rfl,rfl,rfl⟩
theorem hV.FN (x:hV K C nm bm lX):(PySem.W.clsIn K C).isSome=true:=by
 obtain⟨cd,e,_⟩:=x.cls
 rw[e];rfl
theorem hV.mro (x:hV K C nm bm lX)(T:Value):PySem.W.subIn K (.ref C) T=some ((Value.ref C :: bm).contains T):=by
 obtain⟨cd,e,em,_⟩:=x.cls
 show PySem.W.mroIn K C T=_
 unfold PySem.W.mroIn
 rw[e,Option.bind_some,em,if_neg (by simp)]
theorem hV.Ln (x:hV K C nm bm lX)(T:Value)(ht:(∃ n b i,∃ D,T=.ref D/\hV K D n b i)∨∃ t,T=.type t/\kitMeta t=true):kitOne K (.ref C) T=some ((Value.ref C :: bm).contains T):=by
 unfold kitOne
 by_cases q:(Value.ref C == T)=true
 ·rw[if_pos q,beq_iff_eq.mp q];simp
 ·rw[if_neg q]
  rcases ht with⟨n,b,i,D,rfl,y⟩|⟨t,rfl,y⟩
  ·have z:((PySem.W.clsIn K D).isSome && PySem.W.typeIn K (.ref D) == some (.type "type"))=true:=by
    rw[y.FN]
    obtain⟨_,_,_,_,_,_,_,_,_,_,_,_,_,_,l,_⟩:=y.ex
    have e:PySem.W.typeIn K (.ref D)=some (.type "type"):=by
     show Option.map (λ o=>o.cls) (K.lookup D)=_
     rw[l]
     rfl
    rw[e]
    rfl
   unfold kitCls
   dsimp only
   rw[if_pos z]
   exact x.mro _
  ·unfold kitCls
   dsimp only
   rw[if_pos y]
   exact x.mro _
end
def M9 (C e:Addr):HO:=.ext λ h=>∃ ox:Obj,h.get? e=some ox/\ox.cls=.ref C/\notCls ox=true/\ox.dict=none
def Qh (C e dx:Addr):HO:=.ext λ h=>∃ ox:Obj,h.get? e=some ox/\ox.cls=.ref C/\notCls ox=true/\ox.dict=some dx
theorem bP.there {P:Program}{w:World}{H:Hp}{h:Heap}{a:Addr}{o:HO}(x:bP P w H h a o):∃ ob,h.get? a=some ob:=by
 cases o with
 | lst xs=>obtain⟨_,_,_,_,e⟩:=x;exact⟨_,e⟩
 | tup xs=>obtain⟨_,_,_,ob,e,_⟩:=x;exact⟨_,e⟩
 | dK kvs=>obtain⟨_,_,_,_,o,_,_,e,_⟩:=x;exact⟨_,e⟩
 | dT kvs=>obtain⟨_,_,_,_,o,_,_,e,_⟩:=x;exact⟨_,e⟩
 | set S n=>obtain⟨o,_,_,_,e,_⟩:=x;exact⟨_,e⟩
 | ins C dx fs=>obtain⟨_,_,_,e,_⟩:=x;exact⟨_,e⟩
 | own y=>obtain⟨_,e⟩:=x;exact⟨_,e⟩
 | xd fs=>obtain⟨_,⟨_,_,_,e,_⟩,_⟩:=x;exact⟨_,e⟩
 | Kd lo hi=>obtain⟨_,_,_,e⟩:=x;exact⟨_,e⟩
 | ll ob u=>obtain⟨e,_⟩:=x;exact⟨_,e⟩
 | oA ps=>exact⟨_,(show h.get? a=some _ from x)⟩
 | met f y=>exact⟨_,(show h.get? a=some _ from x)⟩
 | ext φ=>obtain⟨_,⟨_,e⟩,_⟩:=x;exact⟨_,e⟩
section
variable {X:Cx}{pins:List (Addr × Obj)}{σ:St}{H:Hp}{s:Shared}{h':Heap}{a:Addr}{o:HO}
theorem Inv.gone (I:Inv X pins σ H s)(hn:s.heap.get? a=none):H a=none:=by
 cases q:H a with
 | none=>rfl
 | some u=>
  obtain⟨ob,e⟩:=(I.aX a u q).there
  rw[hn]at e;cases e
theorem Inv.Lj {t':Nat}(I:Inv X pins σ H s)(k:∀ b u,s.heap.get? b=some u->h'.get? b=some u)(hn:s.heap.get? a=none)(new:bP X.prog X.w (upd H a o) h' a o):Inv X pins σ (upd H a o) { s with heap:=h',toks:=t' }:=by
 have ha:=I.gone hn
 have nb:∀ b u,s.heap.get? b=some u->b≠a:=λ b u q z=>by subst z;rw[hn]at q;cases q
 have nh:∀ b u,H b=some u->b≠a:=λ b u q=>aJ q ha
 refine I.un ⟨λ b u q _ _ _=>k b u q,λ b u q _ _ _=>⟨u.slots,k b u q⟩,λ b u q n _=>by rw[ah (nb b u q)];exact n,λ b u q _=>⟨u,k b u q⟩,
  λ b xs q=>by rw[ah (nh b _ q)];exact q,λ b u xs q=>by rw[ah (nh b _ q)];exact q,λ b ps q=>⟨#[],by rw[ah (nh b _ q),q];simp⟩⟩ λ b u q=>?_
 by_cases hb:b=a
 ·subst hb;rw[aw]at q;cases q;exact new
 ·rw[ah hb]at q
  exact(I.aX b u q).ly (λ c v _ z=>k c v z) (λ c z=>by rw[ah (nh c _ z)];exact z) λ c xs z=>by rw[ah (nh c _ z)];exact z
end
def NN (H:Hp)(e C:Addr):Prop:=H e=some (M9 C e)∨∃ dx fs,H e=some (Qh C e dx)/\H dx=some (.xd fs)
theorem NN.inst {X:Cx}{pins:List (Addr × Obj)}{σ:St}{H:Hp}{s:Shared}{e C:Addr}(x:NN H e C)(I:Inv X pins σ H s):∃ ox od,InstAt s.heap e ox C od:=by
 rcases x with x|⟨dx,fs,x,hf⟩
 ·obtain⟨⟨ox,e1,e2,e3,e4⟩,_⟩:=I.aX _ _ x
  exact⟨ox,none,e1,e2,e3,by rw[e4];trivial⟩
 ·obtain⟨⟨ox,e1,e2,e3,e4⟩,_⟩:=I.aX _ _ x
  obtain⟨mA,⟨od,_,_,q,_⟩,_⟩:=I.aX _ _ hf
  exact⟨ox,some od,e1,e2,e3,by rw[e4];exact q⟩
def Oq (K:PySem.W.Frag):List V->Hp->VK->Prop:=λ xs H Q=>∃ e C v c b,xs=[.ref e,v]/\(match v with|.ty n=>c=Value.type n|.ref a=>c=Value.ref a|_=>False)/\NN H e C/\Fu K C/\kitOne K (.ref C) c=some b/\Q (.bl b) H
theorem B3 {X:Cx}:dP X (.builtin "isinstance") (Oq X.K):=by
 rintro pins s σ H xs us Q I rv ⟨e,C,v,c,b,rfl,hv,hx,g,kb,q⟩
 obtain⟨ox,od,J⟩:=hx.inst I
 cases rv with
 | cons r1 rv=>
  cases rv with
  | cons r2 rv=>
   cases rv
   cases (show _=Value.ref e from r1)
   rename_i u2
   have e2:u2=c:=by
    cases v with
    | ty n=>exact(show u2=Value.type n from r2).trans hv.symm
    | ref a=>exact(show u2=Value.ref a from r2).trans hv.symm
    | _=>exact hv.elim
   subst e2
   exact PySem.W.kia_one (uC g) I.jl ⟨ox,od,J⟩ kb (λ z=>nomatch z) λ tk=>⟨.bl b,H,I.tok _,rfl,q⟩
end L2
namespace L2
open PySem PySem.Spec PyProof.Rows
theorem rT:∀ {ss:List Str}{us:List Value},Vals (ss.map V.str) us->∃ l:List (Str × Tok),strValues l=us/\l.map (·.1)=ss
 | [],_,.nil=>⟨[],rfl,rfl⟩
 | x :: r,_,.cons ⟨t,e⟩ h=>by
  obtain⟨l,h1,h2⟩:=rT h
  subst e
  exact⟨(x,t) :: l,by rw[<-h1];rfl,by rw[List.map_cons,h2]⟩
def GS:List V->Hp->VK->Prop:=λ xs H Q=>∃ (l:Addr)(ss:List Str),xs=[.ref l]/\H l=some (.lst (ss.map V.str))/\ss.length < 64/\∀ (Cj:List Str) d,H d=none->Cj.Perm ss->sortedS Cj=true->Q (.ref d) (upd H d (.lst (Cj.map V.str)))
theorem o9:∀ {ss:List Str}{us:List Value},Vals (ss.map V.str) us->StrsAre us ss
 | [],_,.nil=>.nil
 | x :: r,_,.cons ⟨t,e⟩ h=>by subst e;exact .cons x t (o9 h)
theorem fV:∀ {ss:List Str}{us:List Value},StrsAre us ss->Vals (ss.map V.str) us
 | _,_,.nil=>.nil
 | _,_,.cons x t h=>.cons ⟨t,rfl⟩ (fV h)
theorem qd {X:Cx}:dP X (.builtin "sorted") GS:=by
 rintro pins s σ H xs us Q I rv ⟨l,ss,rfl,hH,FU,q⟩
 obtain⟨u,rfl,ru⟩:=rv.one
 cases (show u=Value.ref l from ru)
 obtain⟨z,its,n,r,hl,e⟩:=I.vS hH
 rw[List.length_map]at hl
 refine sorted_strs ⟨_,e,rfl,n,rfl⟩ (o9 r) (by omega) λ out Cj a1 a2 a3=>?_
 obtain⟨e',he⟩:=sortedAll_at s.heap its out
 have hd:H (s.heap.objs.size+1)=none:=I.aX.fresh (Nat.le_succ _)
 refine⟨.ref (s.heap.objs.size+1),_,I.laid (a:=s.heap.objs.size+1) (o:=.lst (Cj.map V.str)) (t':=s.toks) (λ b o z=>sortedAll_old z) (Nat.le_succ _) ⟨?_,_,e',fV a1,?_⟩,rfl,q Cj _ hd a2 a3⟩
 ·rw[List.length_map,a2.length_eq];exact Nat.le_of_lt (bZ (by omega))
 ·rw[he]
end L2
namespace L2
open PySem PySem.Spec PyProof.Rows
end L2
namespace Mm
open PySem L2
inductive AV where
 | aC|bl (b:Bool)|int (i:Int)|str (x:Str)|tup (xs:List AV)|ref (i:Nat)|sq (xs:List AV)
inductive AO where
 | lst (xs:List AV)|dK (kvs:List (Key × AV))|dT (kvs:List (List Key × AV))|ins (C:Nat) (fs:List (Str × AV))|exc (C:Nat)|tab (i:Nat) (q:Str)
abbrev S:=List AO
abbrev En:=List (Option AV)
structure AX where
 cls:Nat
 fs:List (Str × AV)
inductive R (α:Type) where
 | ok (a:α) (s:S)|ex (c:AX) (s:S)|bad
def R.bind {α β:Type}:R α->(α->S->R β)->R β
 | .ok a s,f=>f a s
 | .ex c s,_=>.ex c s
 | .bad,_=>.bad
inductive RS where
 | nx (e:En) (s:S)|rt (v:AV) (s:S)|bk (e:En) (s:S)|ct (e:En) (s:S)|ex (c:AX) (s:S)|bad
@[simp] theorem ay {α β:Type}(a:α) (s:S) (f:α->S->R β):(R.ok a s).bind f=f a s:=rfl
@[simp] theorem mN {α β:Type}(f:α->S->R β):(R.bad:R α).bind f=.bad:=rfl
structure Tx where
 K:PySem.W.Frag
 cl:Nat->Addr
def Ge (K:PySem.W.Frag)(H:Hp)(a:Addr)(xs:List V):Prop:=
 (∃ o,H a=some (.ll o (.lst xs)))∨∃ (o:Obj) (its:Array Value) (n:Nat),K.lookup a=some o/\o.cls=.type "list"/\o.dict=none/\o.data=.seq its n/\its.size<=sizeLine/\Vals xs its.toList
theorem Ge.xX {K:PySem.W.Frag}{H:Hp}{a:Addr}{xs:List V}(h:Ge K H a xs):fB K H a xs:=by
 rcases h with h|h
 ·exact .inl (.inr h)
 ·exact .inr h
mutual
def VR (T:Tx)(ρ:List Addr)(H:Hp):AV->V->Prop
 | .aC,x=>x=.aC
 | .bl b,x=>x=.bl b
 | .int i,x=>x=.int i
 | .str z,x=>x=.str z
 | .tup xs,x=>∃ a vs,x=.ref a/\hW T.K H a vs/\aO T ρ H xs vs
 | .ref i,x=>∃ a,ρ[i]? = some a/\x=.ref a
 | .sq xs,x=>∃ a vs,x=.ref a/\Ge T.K H a vs/\aO T ρ H xs vs
def aO (T:Tx)(ρ:List Addr)(H:Hp):List AV->List V->Prop
 | [],vs=>vs=[]
 | v :: r,vs=>∃ x ys,vs=x :: ys/\VR T ρ H v x/\aO T ρ H r ys
end
structure Gr (ρ:List Addr)(H:Hp)(ρ':List Addr)(H':Hp):Prop where
 pre:ρ <+: ρ'
 jE:∀ b xs,H b=some (.tup xs)->H' b=some (.tup xs)
 iJ:∀ b o u,H b=some (.ll o u)->H' b=some (.ll o u)
structure Up (ρ:List Addr)(H:Hp)(ρ':List Addr)(H':Hp):Prop extends Gr ρ H ρ' H' where
 fr:∀ b o,H b=some o->b∉ρ->H' b=some o/\b∉ρ'
 live:∀ b,H' b=none->H b=none
theorem Up.refl {ρ:List Addr}{H:Hp}:Up ρ H ρ H:=⟨⟨List.prefix_rfl,λ _ _ h=>h,λ _ _ _ h=>h⟩,λ _ _ h n=>⟨h,n⟩,λ _ h=>h⟩
theorem Up.trans {ρ ρ1 ρ2:List Addr}{H H1 H2:Hp}(a:Up ρ H ρ1 H1)(b:Up ρ1 H1 ρ2 H2):Up ρ H ρ2 H2:=
 ⟨⟨a.pre.trans b.pre,λ c xs h=>b.jE c xs (a.jE c xs h),λ c o u h=>b.iJ c o u (a.iJ c o u h)⟩,λ c o h n=>let ⟨h1,n1⟩:=a.fr c o h n;b.fr c o h1 n1,λ c h=>a.live c (b.live c h)⟩
theorem Up.add {ρ ρ1:List Addr}{H H1:Hp}{p:Addr}(a:Up ρ H ρ1 H1)(h:H p=none):Up ρ H (ρ1++[p]) H1:=
 ⟨⟨a.pre.trans (List.prefix_append _ _),a.jE,a.iJ⟩,λ b o e n=>⟨(a.fr b o e n).1,λ z=>by
  rcases List.mem_append.mp z with z|z
  ·exact(a.fr b o e n).2 z
  ·rw[List.mem_singleton.mp z,h]at e;cases e⟩,a.live⟩
theorem wG {α:Type}{ρ ρ':List α}(h:ρ <+: ρ'){i:Nat}{a:α}(e:ρ[i]? = some a):ρ'[i]? = some a:=by
 obtain⟨t,rfl⟩:=h
 rw[List.getElem?_append_left]
 ·exact e
 ·exact(List.getElem?_eq_some_iff.mp e).1
theorem Gr.Kb {K:PySem.W.Frag}{ρ ρ':List Addr}{H H':Hp}(u:Gr ρ H ρ' H'){a:Addr}{vs:List V}(h:hW K H a vs):hW K H' a vs:=by
 rcases h with(h|⟨o,h⟩)|h
 ·exact .inl (.inl (u.jE _ _ h))
 ·exact .inl (.inr ⟨o,u.iJ _ _ _ h⟩)
 ·exact .inr h
theorem Gr.Od {K:PySem.W.Frag}{ρ ρ':List Addr}{H H':Hp}(u:Gr ρ H ρ' H'){a:Addr}{vs:List V}(h:Ge K H a vs):Ge K H' a vs:=by
 rcases h with⟨o,h⟩|h
 ·exact .inl ⟨o,u.iJ _ _ _ h⟩
 ·exact .inr h
section
variable {T:Tx}{ρ ρ':List Addr}{H H':Hp}
mutual
theorem VR.gr (u:Gr ρ H ρ' H'):∀ {v:AV}{x:V},VR T ρ H v x->VR T ρ' H' v x
 | .aC,_,h=>h
 | .bl _,_,h=>h
 | .int _,_,h=>h
 | .str _,_,h=>h
 | .ref _,_,h=>by
  unfold VR at *
  obtain⟨a,h,e⟩:=h
  exact⟨a,wG u.pre h,e⟩
 | .tup _,_,h=>by
  unfold VR at *
  obtain⟨a,vs,e,h1,h2⟩:=h
  exact⟨a,vs,e,u.Kb h1,aO.gr u h2⟩
 | .sq _,_,h=>by
  unfold VR at *
  obtain⟨a,vs,e,h1,h2⟩:=h
  exact⟨a,vs,e,u.Od h1,aO.gr u h2⟩
theorem aO.gr (u:Gr ρ H ρ' H'):∀ {l:List AV}{xs:List V},aO T ρ H l xs->aO T ρ' H' l xs
 | [],_,h=>h
 | _ :: _,_,h=>by
  unfold aO at *
  obtain⟨x,ys,e,h1,h2⟩:=h
  exact⟨x,ys,e,VR.gr u h1,aO.gr u h2⟩
end
theorem VR.up (u:Up ρ H ρ' H'){v:AV}{x:V}(h:VR T ρ H v x):VR T ρ' H' v x:=h.gr u.toGr
theorem aO.up (u:Up ρ H ρ' H'){v:List AV}{x:List V}(h:aO T ρ H v x):aO T ρ' H' v x:=h.gr u.toGr
theorem aO.length:∀ {l:List AV}{xs:List V},aO T ρ H l xs->l.length=xs.length
 | [],_,h=>by unfold aO at h;subst h;rfl
 | _ :: _,_,h=>by
  unfold aO at h
  obtain⟨x,ys,rfl,_,h2⟩:=h
  simp[aO.length h2]
theorem aO.nil:aO T ρ H [] []:=by unfold aO;rfl
theorem aO.cons {v:AV}{x:V}{l:List AV}{xs:List V}(h:VR T ρ H v x)(k:aO T ρ H l xs):aO T ρ H (v :: l) (x :: xs):=by
 unfold aO
 exact⟨x,xs,rfl,h,k⟩
theorem aO.nil_inv {xs:List V}(h:aO T ρ H [] xs):xs=[]:=by unfold aO at h;exact h
theorem aO.cons_inv {v:AV}{l:List AV}{xs:List V}(h:aO T ρ H (v :: l) xs):∃ x ys,xs=x :: ys/\VR T ρ H v x/\aO T ρ H l ys:=by unfold aO at h;exact h
theorem aO.get:∀ {l:List AV}{xs:List V}{i:Nat}{v:AV},aO T ρ H l xs->l[i]? = some v->∃ x,xs[i]? = some x/\VR T ρ H v x
 | [],_,_,_,_,e=>by simp at e
 | _ :: _,_,0,_,h,e=>by
  obtain⟨x,ys,rfl,h1,_⟩:=h.cons_inv
  simp at e;subst e
  exact⟨x,rfl,h1⟩
 | _ :: _,_,i+1,_,h,e=>by
  obtain⟨x,ys,rfl,_,h2⟩:=h.cons_inv
  exact aO.get (i:=i) h2 (by simpa using e)
theorem aO.append:∀ {l q:List AV}{xs ys:List V},aO T ρ H l xs->aO T ρ H q ys->aO T ρ H (l++q) (xs++ys)
 | [],_,_,_,h,k=>by cases h.nil_inv;exact k
 | _ :: _,_,_,_,h,k=>by
  obtain⟨x,zs,rfl,h1,h2⟩:=h.cons_inv
  exact .cons h1 (aO.append h2 k)
theorem aO.one {v:AV}{x:V}(h:VR T ρ H v x):aO T ρ H [v] [x]:=.cons h .nil
theorem aO.set:∀ {l:List AV}{xs:List V}{v:AV}{x:V}(i:Nat),aO T ρ H l xs->VR T ρ H v x->aO T ρ H (l.set i v) (xs.set i x)
 | [],_,_,_,_,h,_=>by cases h.nil_inv;exact .nil
 | _ :: _,_,_,_,0,h,k=>by
  obtain⟨x,zs,rfl,h1,h2⟩:=h.cons_inv
  exact .cons k h2
 | _ :: _,_,_,_,i+1,h,k=>by
  obtain⟨x,zs,rfl,h1,h2⟩:=h.cons_inv
  exact .cons h1 (aO.set i h2 k)
theorem aO.drop:∀ {l:List AV}{xs:List V}(n:Nat),aO T ρ H l xs->aO T ρ H (l.drop n) (xs.drop n)
 | _,_,0,h=>h
 | [],_,_+1,h=>by cases h.nil_inv;exact .nil
 | _ :: _,_,n+1,h=>by
  obtain⟨x,zs,rfl,h1,h2⟩:=h.cons_inv
  exact aO.drop n h2
theorem aO.take:∀ {l:List AV}{xs:List V}(n:Nat),aO T ρ H l xs->aO T ρ H (l.take n) (xs.take n)
 | _,_,0,h=>.nil
 | [],_,_+1,h=>by cases h.nil_inv;exact .nil
 | _ :: _,_,n+1,h=>by
  obtain⟨x,zs,rfl,h1,h2⟩:=h.cons_inv
  exact .cons h1 (aO.take n h2)
theorem aO.map {α:Type}{f:α->AV}{g:α->V}(h:∀ a,VR T ρ H (f a) (g a)):∀ (l:List α),aO T ρ H (l.map f) (l.map g)
 | []=>.nil
 | a :: r=>.cons (h a) (aO.map h r)
theorem aO.xG:∀ {ns:List Bool}{xs:List V},aO T ρ H (ns.map AV.bl) xs->xs=ns.map V.bl
 | [],_,h=>h.nil_inv
 | _ :: _,_,h=>by
  obtain⟨x,zs,rfl,h1,h2⟩:=h.cons_inv
  unfold VR at h1
  rw[h1,aO.xG h2];rfl
theorem aO.o8:∀ {ns:List Str}{xs:List V},aO T ρ H (ns.map AV.str) xs->xs=ns.map V.str
 | [],_,h=>h.nil_inv
 | _ :: _,_,h=>by
  obtain⟨x,zs,rfl,h1,h2⟩:=h.cons_inv
  unfold VR at h1
  rw[h1,aO.o8 h2];rfl
theorem eI {i:Int}:VR T ρ H (.int i) (.int i):=by unfold VR;rfl
theorem dW {i:Bool}:VR T ρ H (.bl i) (.bl i):=by unfold VR;rfl
theorem gQ {i:Str}:VR T ρ H (.str i) (.str i):=by unfold VR;rfl
theorem oY:VR T ρ H .aC .aC:=by unfold VR;rfl
theorem lu {i:Nat}{a:Addr}(h:ρ[i]? = some a):VR T ρ H (.ref i) (.ref a):=by unfold VR;exact⟨a,h,rfl⟩
theorem jL {xs:List AV}{a:Addr}{vs:List V}(h:hW T.K H a vs)(k:aO T ρ H xs vs):VR T ρ H (.tup xs) (.ref a):=by unfold VR;exact⟨a,vs,rfl,h,k⟩
theorem VR.dg {xs:List AV}{x:V}(h:VR T ρ H (.tup xs) x):∃ a vs,x=.ref a/\hW T.K H a vs/\aO T ρ H xs vs:=by unfold VR at h;exact h
theorem VR.fK {i:Nat}{x:V}(h:VR T ρ H (.ref i) x):∃ a,ρ[i]? = some a/\x=.ref a:=by unfold VR at h;exact h
theorem VR.fW {xs:List AV}{x:V}(h:VR T ρ H (.sq xs) x):∃ a vs,x=.ref a/\Ge T.K H a vs/\aO T ρ H xs vs:=by unfold VR at h;exact h
theorem VR.int_inv {i:Int}{x:V}(h:VR T ρ H (.int i) x):x=.int i:=by unfold VR at h;exact h
theorem VR.hJ {i:Bool}{x:V}(h:VR T ρ H (.bl i) x):x=.bl i:=by unfold VR at h;exact h
theorem VR.str_inv {i:Str}{x:V}(h:VR T ρ H (.str i) x):x=.str i:=by unfold VR at h;exact h
theorem VR.gH {x:V}(h:VR T ρ H .aC x):x=.aC:=by unfold VR at h;exact h
def rM (H:Hp)(q:Str)(ps:Array Value):Prop:=TriplesOk ps.toList/\∀ pos cv,codeAmong pos ps.toList=some cv->∃ c oc u vs t,cv=.ref c/\H c=some (.ll oc u)/\oc.data=.fields vs/\vs[1]? = some (.str q t)
def OR (T:Tx)(ρ:List Addr)(H:Hp):AO->Addr->Prop
 | .lst xs,a=>∃ vs,H a=some (.lst vs)/\aO T ρ H xs vs
 | .dK kvs,a=>∃ ks:List (Key × V),H a=some (.dK ks)/\kvs.map (·.1)=ks.map (·.1)/\aO T ρ H (kvs.map (·.2)) (ks.map (·.2))
 | .dT kvs,a=>∃ ks:List (List Key × V),H a=some (.dT ks)/\kvs.map (·.1)=ks.map (·.1)/\aO T ρ H (kvs.map (·.2)) (ks.map (·.2))
 | .ins C fs,a=>∃ (dx:Addr) (ks:List (Str × V)),H a=some (.ins (T.cl C) dx ks)/\fs.map (·.1)=ks.map (·.1)/\aO T ρ H (fs.map (·.2)) (ks.map (·.2))
 | .exc C,a=>H a=some (M9 (T.cl C) a)
 | .tab i q,a=>a=T.cl i/\∃ ps,H a=some (.oA ps)/\rM H q ps
theorem OR.ex {o:AO}{a:Addr}(h:OR T ρ H o a):∃ u,H a=some u:=by
 cases o with
 | lst xs=>obtain⟨_,h,_⟩:=h;exact⟨_,h⟩
 | dK xs=>obtain⟨_,h,_⟩:=h;exact⟨_,h⟩
 | dT xs=>obtain⟨_,h,_⟩:=h;exact⟨_,h⟩
 | ins C xs=>obtain⟨_,_,h,_⟩:=h;exact⟨_,h⟩
 | exc C=>exact⟨_,h⟩
 | tab i q=>obtain⟨_,_,h,_⟩:=h;exact⟨_,h⟩
theorem OR.up {o:AO}{a:Addr}(u:Gr ρ H ρ' H')(e:H' a=H a)(h:OR T ρ H o a):OR T ρ' H' o a:=by
 cases o with
 | lst xs=>obtain⟨vs,h,k⟩:=h;exact⟨vs,e.trans h,k.gr u⟩
 | dK xs=>obtain⟨vs,h,q,k⟩:=h;exact⟨vs,e.trans h,q,k.gr u⟩
 | dT xs=>obtain⟨vs,h,q,k⟩:=h;exact⟨vs,e.trans h,q,k.gr u⟩
 | ins C xs=>obtain⟨dx,vs,h,q,k⟩:=h;exact⟨dx,vs,e.trans h,q,k.gr u⟩
 | exc C=>exact e.trans h
 | tab i q=>
  obtain⟨h1,ps,h2,h3,h4⟩:=h
  exact⟨h1,ps,e.trans h2,h3,λ pos cv z=>let ⟨c,oc,w,vs,t,k1,k2,k3⟩:=h4 pos cv z;⟨c,oc,w,vs,t,k1,u.iJ _ _ _ k2,k3⟩⟩
end
structure SR (T:Tx)(ρ:List Addr)(s:S)(H:Hp):Prop where
 nd:ρ.Nodup
 len:ρ.length=s.length
 obj:∀ (i:Nat) (o:AO),s[i]? = some o->∃ a,ρ[i]? = some a/\OR T ρ H o a
section
variable {T:Tx}{ρ ρ':List Addr}{s:S}{H H':Hp}
theorem SR.in (h:SR T ρ s H){a:Addr}(ha:a∈ρ):∃ u,H a=some u:=by
 obtain⟨i,hi,e⟩:=List.getElem_of_mem ha
 have ES:i < s.length:=by rw[<-h.len];exact hi
 obtain⟨b,e2,q⟩:=h.obj i s[i] (List.getElem?_eq_getElem ES)
 rw[List.getElem?_eq_getElem hi]at e2
 cases e2
 rw[e]at q
 exact q.ex
theorem SR.out (h:SR T ρ s H){a:Addr}(ha:H a=none):a∉ρ:=λ z=>by
 obtain⟨u,e⟩:=h.in z
 rw[ha]at e;cases e
theorem SR.eK (h:SR T ρ s H){p:Addr}{o:HO}(hp:H p=none):Up ρ H ρ (upd H p o):=
 ⟨⟨List.prefix_rfl,λ b xs e=>by rw[ah (aJ e hp)];exact e,λ b o u e=>by rw[ah (aJ e hp)];exact e⟩,λ b u e n=>⟨by rw[ah (aJ e hp)];exact e,n⟩,λ b e=>by
  by_cases hb:b=p
  ·rw[hb];exact hp
  ·rw[ah hb]at e;exact e⟩
theorem SR.up (h:SR T ρ s H)(u:Gr ρ H ρ H')(k:∀ a∈ρ,H' a=H a):SR T ρ s H':=
 ⟨h.nd,h.len,λ i o e=>by
  obtain⟨a,e1,q⟩:=h.obj i o e
  exact⟨a,e1,q.up u (k a (List.mem_of_getElem? e1))⟩⟩
theorem SR.new (h:SR T ρ s H){p:Addr}{o:HO}(hp:H p=none):SR T ρ s (upd H p o):=
 h.up (h.eK hp).toGr λ a ha=>ah λ e=>h.out hp (e ▸ ha)
theorem SR.add (h:SR T ρ s H){p:Addr}{o:AO}(hp:p∉ρ)(k:OR T (ρ++[p]) H o p):SR T (ρ++[p]) (s++[o]) H:=by
 refine⟨List.nodup_append.mpr ⟨h.nd,by simp,λ a ha b hb e=>hp (by rw[List.mem_singleton.mp hb]at e;exact e ▸ ha)⟩,by simp[h.len],λ i q e=>?_⟩
 by_cases hi:i < s.length
 ·rw[List.getElem?_append_left hi]at e
  obtain⟨a,e1,q1⟩:=h.obj i q e
  refine⟨a,by rw[List.getElem?_append_left (by rw[h.len];exact hi)];exact e1,?_⟩
  exact q1.up ⟨List.prefix_append _ _,λ _ _ e=>e,λ _ _ _ e=>e⟩ rfl
 ·rw[List.getElem?_append_right (by omega)]at e
  have hz:i - s.length=0:=by
   have:=(List.getElem?_eq_some_iff.mp e).1
   simp at this;omega
  rw[hz]at e
  cases e
  exact⟨p,by rw[List.getElem?_append_right (by rw[h.len];omega),h.len,hz];rfl,k⟩
end
structure Rl (α β:Type) where
 r:Hp->List Addr->Hp->α->β->Prop
 Fp:∀ {H H1:Hp}{ρ:List Addr}{H':Hp}{v:α}{x:β},(∀ b,H1 b=none->H b=none)->r H1 ρ H' v x->r H ρ H' v x
abbrev gJ:=AX->List Addr->S->Hp->Prop
def Out {α β:Type}(T:Tx)(XE:gJ)(rl:Rl α β)(ρ:List Addr)(H:Hp):R α->(β->Hp->Prop)->Prop
 | .ok v s,Q=>∀ ρ' H' x,Up ρ H ρ' H'->SR T ρ' s H'->rl.r H ρ' H' v x->Q x H'
 | .ex c s,_=>∀ ρ' H',Up ρ H ρ' H'->SR T ρ' s H'->XE c ρ' s H'
 | .bad,_=>False
theorem Out.up {α β:Type}{T:Tx}{XE:gJ}{rl:Rl α β}{ρ ρ':List Addr}{H H':Hp}{r:R α}{Q:β->Hp->Prop}(u:Up ρ H ρ' H')(h:Out T XE rl ρ H r Q):Out T XE rl ρ' H' r Q:=by
 cases r with
 | ok v s=>exact λ ρ2 H2 x u2 sr vr=>h ρ2 H2 x (u.trans u2) sr (rl.Fp u.live vr)
 | ex c s=>exact λ ρ2 H2 u2 sr=>h ρ2 H2 (u.trans u2) sr
 | bad=>exact h
theorem Out.imp {α β:Type}{T:Tx}{XE:gJ}{rl:Rl α β}{ρ:List Addr}{H:Hp}{r:R α}{Q Q':β->Hp->Prop}(h:Out T XE rl ρ H r Q)(k:∀ x H',Q x H'->Q' x H'):Out T XE rl ρ H r Q':=by
 cases r with
 | ok v s=>exact λ ρ2 H2 x u2 sr vr=>k _ _ (h ρ2 H2 x u2 sr vr)
 | ex c s=>exact h
 | bad=>exact h
structure ER (T:Tx)(ρ:List Addr)(H:Hp)(env:En)(σ:St):Prop where
 len:env.length=σ.length
 get:∀ (i:Nat) (v:AV),env[i]? = some (some v)->∃ x,σ[i]? = some (some x)/\VR T ρ H v x
theorem ER.up {T:Tx}{ρ ρ':List Addr}{H H':Hp}{env:En}{σ:St}(u:Up ρ H ρ' H')(h:ER T ρ H env σ):ER T ρ' H' env σ:=
 ⟨h.len,λ i v e=>let ⟨x,e1,q⟩:=h.get i v e;⟨x,e1,q.up u⟩⟩
theorem ER.set {T:Tx}{ρ:List Addr}{H:Hp}{env:En}{σ:St}(h:ER T ρ H env σ){i:Nat}{v:AV}{x:V}(k:VR T ρ H v x):ER T ρ H (env.set i (some v)) (σ.set i (some x)):=by
 refine⟨by simp[h.len],λ j w e=>?_⟩
 by_cases qf:i=j
 ·subst qf
  have hl:i < env.length:=by
   have:=(List.getElem?_eq_some_iff.mp e).1
   simpa using this
  rw[List.getElem?_set_self hl]at e
  cases e
  exact⟨x,by rw[List.getElem?_set_self (by rw[<-h.len];exact hl)],k⟩
 ·rw[List.getElem?_set_ne qf]at e ⊢
  exact h.get j w e
def tG {α β:Type}(T:Tx)(XE:gJ)(rl:Rl α β)(m:En->S->R α):St->Hp->(β->Hp->Prop)->Prop:=λ σ H Q=>
 ∃ ρ env s,SR T ρ s H/\ER T ρ H env σ/\Out T XE rl ρ H (m env s) Q
theorem step {α β α' β':Type}{T:Tx}{XE:gJ}{rl:Rl α β}{Qo:Rl α' β'}{ρ:List Addr}{env:En}{s:S}{σ:St}{H:Hp}{m:En->S->R α}{k:α->S->R α'}{Q:β'->Hp->Prop}{F:β->Hp->Prop}
  (hs:SR T ρ s H) (he:ER T ρ H env σ) (ho:Out T XE Qo ρ H ((m env s).bind k) Q)
  (hk:∀ v s1 ρ1 H1 x,m env s=.ok v s1->Up ρ H ρ1 H1->SR T ρ1 s1 H1->ER T ρ1 H1 env σ->rl.r H ρ1 H1 v x->Out T XE Qo ρ1 H1 (k v s1) Q->F x H1):tG T XE rl m σ H F:=by
 refine⟨ρ,env,s,hs,he,?_⟩
 cases e:m env s with
 | ok v s1=>
  rw[e]at ho
  exact λ ρ1 H1 x u sr vr=>hk v s1 ρ1 H1 x e u sr (he.up u) vr (Out.up u ho)
 | ex c s1=>rw[e]at ho;exact ho
 | bad=>rw[e]at ho;exact ho
theorem Out.here {α β:Type}{T:Tx}{XE:gJ}{rl:Rl α β}{ρ:List Addr}{H:Hp}{v:α}{s:S}{Q:β->Hp->Prop}{x:β}(h:Out T XE rl ρ H (.ok v s) Q) (sr:SR T ρ s H)(r:rl.r H ρ H v x):Q x H:=h ρ H x .refl sr r
theorem PE.imp {X:Cx}{e:Expr}{t t':TE}(h:PE X e t)(k:∀ σ H Q,t' σ H Q->t σ H Q):PE X e t':=λ pins s σ H Q I hq=>h pins s σ H Q I (k σ H Q hq)
theorem PT.imp {X:Cx}{e:Expr}{t t':TT}(h:PT X e t)(k:∀ σ H Q,t' σ H Q->t σ H Q):PT X e t':=λ pins s σ H Q I hq=>h pins s σ H Q I (k σ H Q hq)
theorem PW.imp {X:Cx}{e:Expr}{t t':TT}(h:PW X e t)(k:∀ σ H Q,t' σ H Q->t σ H Q):PW X e t':=λ wh pins s σ H Q I hq=>h wh pins s σ H Q I (k σ H Q hq)
theorem PA.imp {X:Cx}{e:List Expr}{t t':TA}(h:PA X e t)(k:∀ σ H Q,t' σ H Q->t σ H Q):PA X e t':=λ pos pins s σ H Q I hq=>h pos pins s σ H Q I (k σ H Q hq)
theorem PS.imp {X:Cx}{e:Stmt}{t t':TS}(h:PS X e t)(k:∀ D σ H,t' D σ H->t D σ H):PS X e t':=λ pins s σ H Q I hq=>h pins s σ H Q I (k Q σ H hq)
theorem kI.imp {X:Cx}{e:List Stmt}{t t':TS}(h:kI X e t)(k:∀ D σ H,t' D σ H->t D σ H):kI X e t':=λ pins s σ H Q I hq=>h pins s σ H Q I (k Q σ H hq)
theorem PI.imp {X:Cx}{tg e:Expr}{t t':TI}(h:PI X tg e t)(k:∀ σ H R,t' σ H R->t σ H R):PI X tg e t':=λ pins s σ H Q I hq=>h pins s σ H Q I (k σ H Q hq)
theorem PG.imp {X:Cx}{e:Expr}{t t':TG}(h:PG X e t)(k:∀ v σ H Q,t' v σ H Q->t v σ H Q):PG X e t':=λ pins s σ H v u Q I r hq=>h pins s σ H v u Q I r (k v σ H Q hq)
theorem xJ.imp {X:Cx}{e:List Expr}{t t':Fw}(h:xJ X e t)(k:∀ v σ H Q,t' v σ H Q->t v σ H Q):xJ X e t':=λ pins s σ H v u Q I r hq=>h pins s σ H v u Q I r (k v σ H Q hq)
end Mm
namespace Mm
open PySem L2
abbrev Ev:=En->S->R AV
abbrev eG:=En->S->R (List AV)
abbrev Eb:=En->S->R Bool
structure CA (i:Int):Prop where
 f:eQ 60000000 i
structure Jt (i:Int):Prop where
 f:eQ 9000 i
noncomputable instance {i:Int}:Decidable (CA i):=Classical.propDecidable _
noncomputable instance {i:Int}:Decidable (Jt i):=Classical.propDecidable _
def rV (T:Tx):Rl AV V:=⟨λ _ ρ H v x=>VR T ρ H v x,λ _ h=>h⟩
def rA (T:Tx):Rl (List AV) (List V):=⟨λ _ ρ H v x=>aO T ρ H v x,λ _ h=>h⟩
def rB:Rl Bool Bool:=⟨λ _ _ _ b c=>b=c,λ _ h=>h⟩
def rL (T:Tx):Rl (List AV) V:=⟨λ wo ρ H xs x=>∃ a vs,x=.ref a/\wo a=none/\a∉ρ/\H a=some (.lst vs)/\aO T ρ H xs vs,λ k ⟨a,vs,e,h,r⟩=>⟨a,vs,e,k a h,r⟩⟩
def rQ (T:Tx):Rl (List AV) V:=⟨λ _ ρ H xs x=>∃ a vs,x=.ref a/\(fB T.K H a vs∨hW T.K H a vs)/\aO T ρ H xs vs,λ _ h=>h⟩
theorem Out.aS {T:Tx}{XE:gJ}{ρ:List Addr}{H:Hp}{v:AV}{s:S}{Q:VK}{x:V}(h:Out T XE (rV T) ρ H (.ok v s) Q) (sr:SR T ρ s H)(r:VR T ρ H v x):Q x H:=h ρ H x .refl sr r
abbrev tE (T:Tx)(XE:gJ)(m:Ev):TE:=tG T XE (rV T) m
abbrev tL (T:Tx)(XE:gJ)(m:eG):TE:=tG T XE (rL T) m
abbrev tQ (T:Tx)(XE:gJ)(m:eG):TE:=tG T XE (rQ T) m
abbrev tP (T:Tx)(XE:gJ)(m:eG):TA:=tG T XE (rA T) m
abbrev jQ (T:Tx)(XE:gJ)(m:Eb):TT:=tG T XE rB m
section
variable {T:Tx}{XE:gJ}{X:Cx}{pos:Pos}
def mv (i:Nat):Ev:=λ env s=>match env[i]? with
 | some (some v)=>.ok v s
 | _=>.bad
theorem OT {i:Nat}{e:Expr}(h:PE X e (Gv i)):PE X e (tE T XE (mv i)):=PE.imp h λ σ H Q ⟨ρ,env,s,hs,he,ho⟩=>by
 unfold mv at ho
 split at ho
 ·rename_i v ev
  obtain⟨x,e1,q⟩:=he.get i v ev
  exact⟨x,e1,ho.aS hs q⟩
 ·exact ho.elim
def mc (v:AV):Ev:=λ _ s=>.ok v s
theorem Ie {i:Int}{j:Nat}:PE X (.Constant (.int i) j pos) (tE T XE (mc (.int i))):=PE.imp Hh λ σ H Q ⟨ρ,env,s,hs,he,ho⟩=>ho.aS hs eI
theorem Lf {i:Bool}{j:Nat}:PE X (.Constant (.bool i) j pos) (tE T XE (mc (.bl i))):=PE.imp Kv λ σ H Q ⟨ρ,env,s,hs,he,ho⟩=>ho.aS hs dW
theorem HY {j:Nat}:PE X (.Constant .none j pos) (tE T XE (mc .aC)):=PE.imp Hf λ σ H Q ⟨ρ,env,s,hs,he,ho⟩=>ho.aS hs oY
theorem HV {i:Str}{j:Nat}:PE X (.Constant (.str i) j pos) (tE T XE (mc (.str i))):=PE.imp Hb λ σ H Q ⟨ρ,env,s,hs,he,ho⟩=>ho.aS hs gQ
theorem Ek {x:Str}{v:V}{u:Value}{a:AV}(hg:Gl X x)(hm:X.mg x=some u)(r:RelV v u)(hv:∀ ρ H,VR T ρ H a v)(hd:(x == ("__debug__":Str))=false:=by decide):PE X (.Name x pos) (tE T XE (mc a)):=
 PE.imp (sm hg hm r hd) λ σ H Q ⟨ρ,env,s,hs,he,ho⟩=>ho.aS hs (hv ρ H)
def qo (T:Tx)(XE:gJ)(op:AV->AV->S->R AV):R2:=λ x y H Q=>∃ ρ v w s,SR T ρ s H/\VR T ρ H v x/\VR T ρ H w y/\Out T XE (rV T) ρ H (op v w s) Q
def Ox (T:Tx)(XE:gJ)(op:AV->S->R AV):V->Hp->VK->Prop:=λ x H Q=>∃ ρ v s,SR T ρ s H/\VR T ρ H v x/\Out T XE (rV T) ρ H (op v s) Q
def ag (op:AV->AV->S->R AV)(a b:Ev):Ev:=λ env s=>(a env s).bind λ v s1=>(b env s1).bind λ w s2=>op v w s2
def cC (op:AV->S->R AV)(a:Ev):Ev:=λ env s=>(a env s).bind λ v s1=>op v s1
theorem t2 {op:AV->AV->S->R AV}{a b:Ev}{σ:St}{H:Hp}{Q:VK}(h:tE T XE (ag op a b) σ H Q):JX (qo T XE op) (tE T XE a) (tE T XE b) σ H Q:=by
 obtain⟨ρ,env,s,hs,he,ho⟩:=h
 exact step hs he ho λ v s1 ρ1 H1 x _ u1 aT cz aN az=>step aT cz az λ w s2 ρ2 H2 y _ u2 fD lS iE cZ=>⟨ρ2,v,w,s2,fD,VR.up u2 aN,iE,cZ⟩
theorem t1 {op:AV->S->R AV}{a:Ev}{σ:St}{H:Hp}{Q:VK}(h:tE T XE (cC op a) σ H Q):Ql (Ox T XE op) (tE T XE a) σ H Q:=by
 obtain⟨ρ,env,s,hs,he,ho⟩:=h
 exact step hs he ho λ v s1 ρ1 H1 x _ u1 aT cz aN az=>⟨ρ1,v,s1,aT,aN,az⟩
theorem pK {o:Operator}{op:AV->AV->S->R AV}{a b:Expr}{m1 m2:Ev}(Bo:iC X (binaryOp o) (qo T XE op)) (ha:PE X a (tE T XE m1)) (hb:PE X b (tE T XE m2)):PE X (.BinOp a o b pos) (tE T XE (ag op m1 m2)):=
 PE.imp (Ks Bo ha hb) λ _ _ _ h=>t2 h
theorem K9 {o:UnaryOp}{op:AV->S->R AV}{a:Expr}{m1:Ev}(Bo:M0 X (unaryOp o) (Ox T XE op)) (ha:PE X a (tE T XE m1)):PE X (.UnaryOp o a pos) (tE T XE (cC op m1)):=
 PE.imp (Kq Bo ha) λ _ _ _ h=>t1 h
theorem jj {o:CmpOp}{op:AV->AV->S->R AV}{a b:Expr}{m1 m2:Ev}(Bo:iC X (compareOp o) (qo T XE op)) (ha:PE X a (tE T XE m1)) (hb:PE X b (tE T XE m2)) (hm:behindInMarks o b=false:=by rfl):PE X (.Compare a [o] [b] pos) (tE T XE (ag op m1 m2)):=
 PE.imp (DG Bo ha hb hm) λ _ _ _ h=>t2 h
theorem La {op:AV->AV->S->R AV}{a b:Expr}{m1 m2:Ev}(Bo:JK X (qo T XE op)) (ha:PE X a (tE T XE m1)) (hb:PE X b (tE T XE m2)) (hs:xI b:=by exact λ _ _=>rfl):PE X (.Subscript a b pos) (tE T XE (ag op m1 m2)):=
 PE.imp (Kt Bo ha hb hs) λ _ _ _ h=>t2 h
theorem Out.alloc {ρ:List Addr}{H:Hp}{s:S}{o:AO}{u:HO}{p:Addr}{Q:VK}(h:Out T XE (rV T) ρ H (.ok (.ref s.length) (s++[o])) Q) (sr:SR T ρ s H)(hp:H p=none)(k:OR T (ρ++[p]) (upd H p u) o p):Q (.ref p) (upd H p u):=by
 have s1:SR T (ρ++[p]) (s++[o]) (upd H p u):=(sr.new hp).add (sr.out hp) k
 exact h _ _ _ ((sr.eK hp).add hp) s1 (lu (T:=T) (H:=upd H p u) (by rw[List.getElem?_append_right (by rw[sr.len];exact Nat.le_refl _),sr.len,Nat.sub_self];rfl))
theorem Out.tup {ρ:List Addr}{H:Hp}{s:S}{xs:List AV}{vs:List V}{p:Addr}{Q:VK}(h:Out T XE (rV T) ρ H (.ok (.tup xs) s) Q) (sr:SR T ρ s H)(hp:H p=none)(k:aO T ρ H xs vs):Q (.ref p) (upd H p (.tup vs)):=
 h _ _ _ (sr.eK hp) (sr.new hp) (jL (hW.of aw) (aO.up (sr.eK hp) k))
theorem Out.lst {ρ:List Addr}{H:Hp}{s:S}{xs:List AV}{vs:List V}{p:Addr}{Q:VK}(h:Out T XE (rL T) ρ H (.ok xs s) Q) (sr:SR T ρ s H)(hp:H p=none)(k:aO T ρ H xs vs):Q (.ref p) (upd H p (.lst vs)):=
 h _ _ _ (sr.eK hp) (sr.new hp) ⟨p,vs,rfl,hp,sr.out hp,aw,aO.up (sr.eK hp) k⟩
theorem SR.fw {ρ:List Addr}{H:Hp}{s:S}(sr:SR T ρ s H){i:Nat}{xs:List AV}(e:s[i]? = some (.lst xs)) {x:V}(h:VR T ρ H (.ref i) x):∃ a vs,x=.ref a/\ρ[i]? = some a/\H a=some (.lst vs)/\aO T ρ H xs vs:=by
 obtain⟨a,e1,vs,h1,h2⟩:=sr.obj i _ e
 obtain⟨b,e2,rfl⟩:=h.fK
 rw[e1]at e2
 cases e2
 exact⟨a,vs,rfl,e1,h1,h2⟩
theorem SR.qy {ρ:List Addr}{H:Hp}{s:S}(sr:SR T ρ s H){i:Nat}{xs:List (Key × AV)}(e:s[i]? = some (.dK xs)) {x:V}(h:VR T ρ H (.ref i) x):∃ (a:Addr) (vs:List (Key × V)),x=.ref a/\ρ[i]? = some a/\H a=some (.dK vs)/\xs.map (·.1)=vs.map (·.1)/\aO T ρ H (xs.map (·.2)) (vs.map (·.2)):=by
 obtain⟨a,e1,vs,h1,h2⟩:=sr.obj i _ e
 obtain⟨b,e2,rfl⟩:=h.fK
 rw[e1]at e2
 cases e2
 exact⟨a,vs,rfl,e1,h1,h2⟩
theorem SR.qH {ρ:List Addr}{H:Hp}{s:S}(sr:SR T ρ s H){i:Nat}{a:Addr}(e:ρ[i]? = some a){u u0:HO}(h0:H a=some u0)(n1:∀ xs,u0≠.tup xs)(n2:∀ o v,u0≠.ll o v):Up ρ H ρ (upd H a u):=by
 refine⟨⟨List.prefix_rfl,λ b xs h=>?_,λ b o v h=>?_⟩,λ b o h n=>⟨?_,n⟩,λ b h=>?_⟩
 ·rw[ah (pI h h0 λ z=>n1 xs z.symm)];exact h
 ·rw[ah (pI h h0 λ z=>n2 o v z.symm)];exact h
 ·rw[ah λ z=>n (by rw[z];exact List.mem_of_getElem? e)];exact h
 ·by_cases hb:b=a
  ·subst hb;rw[aw]at h;cases h
  ·rw[ah hb]at h;exact h
theorem SR.set {ρ:List Addr}{H:Hp}{s:S}(sr:SR T ρ s H){i:Nat}{a:Addr}(e:ρ[i]? = some a){u:HO}{o:AO}(up:Up ρ H ρ (upd H a u)) (k:OR T ρ (upd H a u) o a):SR T ρ (s.set i o) (upd H a u):=by
 refine⟨sr.nd,by simp[sr.len],λ j q ej=>?_⟩
 by_cases qf:i=j
 ·subst qf
  have hl:i < s.length:=by have:=(List.getElem?_eq_some_iff.mp ej).1;simpa using this
  rw[List.getElem?_set_self hl]at ej
  cases ej
  exact⟨a,e,k⟩
 ·rw[List.getElem?_set_ne qf]at ej
  obtain⟨b,e1,q1⟩:=sr.obj j q ej
  refine⟨b,e1,q1.up up.toGr (ah λ z=>qf ?_)⟩
  subst z
  have h1:=(List.getElem?_eq_some_iff.mp e)
  have h2:=(List.getElem?_eq_some_iff.mp e1)
  exact(List.getElem_inj sr.nd).mp (h1.2.trans h2.2.symm)
theorem Out.a9 {α β:Type}{rl:Rl α β}{ρ:List Addr}{H:Hp}{c:Prop}{_:Decidable c}{r:R α}{Q:β->Hp->Prop}(h:Out T XE rl ρ H (if c then r else .bad) Q):c/\Out T XE rl ρ H r Q:=by
 by_cases hc:c
 ·rw[if_pos hc]at h;exact⟨hc,h⟩
 ·rw[if_neg hc]at h;exact h.elim
def need {α γ:Type}(o:Option γ)(f:γ->R α):R α:=match o with
 | some x=>f x
 | none=>.bad
@[simp] theorem aq {α γ:Type}(x:γ) (f:γ->R α):need (some x) f=f x:=rfl
theorem Out.ar {α β γ:Type}{rl:Rl α β}{ρ:List Addr}{H:Hp}{o:Option γ}{f:γ->R α}{Q:β->Hp->Prop}(h:Out T XE rl ρ H (need o f) Q):∃ x,o=some x/\Out T XE rl ρ H (f x) Q:=by
 cases o with
 | none=>exact h.elim
 | some x=>exact⟨x,rfl,h⟩
def ak (s:S)(i:Nat):Option (List AV):=match s[i]? with
 | some (.lst xs)=>some xs
 | _=>none
theorem aB {s:S}{i:Nat}{xs:List AV}(h:ak s i=some xs):s[i]? = some (.lst xs):=by
 unfold ak at h
 split at h
 ·cases h;assumption
 ·cases h
theorem cD {s:S}{i:Nat}{xs:List AV}(h:s[i]? = some (.lst xs)):ak s i=some xs:=by
 unfold ak;rw[h]
def du:AV->AV->S->R AV
 | .int i,.int j,s=>.ok (.int (i+j)) s
 | .str x,.str y,s=>if x.length+y.length<=sizeLine then .ok (.str (x++y)) s else .bad
 | .tup xs,.tup ys,s=>if ys≠[]/\xs.length+ys.length<=sizeLine then .ok (.tup (xs++ys)) s else .bad
 | .ref i,.ref j,s=>need (ak s i) λ xs=>need (ak s j) λ ys=>if xs.length+ys.length<=sizeLine then .ok (.ref s.length) (s++[.lst (xs++ys)]) else .bad
 | _,_,_=>.bad
theorem aO.ne {ρ:List Addr}{H:Hp}{l:List AV}{xs:List V}(h:aO T ρ H l xs)(k:l≠[]):xs≠[]:=by
 intro z
 have:=h.length
 rw[z]at this
 exact k (List.length_eq_zero_iff.mp this)
theorem OR.lst {ρ:List Addr}{H:Hp}{a:Addr}{xs:List AV}{vs:List V}(h:H a=some (.lst vs)) (k:aO T ρ H xs vs):OR T ρ H (.lst xs) a:=⟨vs,h,k⟩
theorem OI (hK:X.K=T.K):iC X (binaryOp .Add) (qo T XE du):=by
 intro pins s σ H x y v u Q I rx ry ⟨ρ,a,b,st,sr,va,vb,ho⟩
 cases a<;>cases b<;>try exact ho.elim
 ·exact Hu pins s σ H x y v u Q I rx ry ⟨_,_,va.int_inv,vb.int_inv,ho.aS sr eI⟩
 ·obtain⟨hl,ho⟩:=ho.a9
  exact vF pins s σ H x y v u Q I rx ry ⟨_,_,va.str_inv,vb.str_inv,hl,ho.aS sr gQ⟩
 ·obtain⟨hl,ho⟩:=ho.a9
  obtain⟨p,vs,rfl,h1,k1⟩:=va.dg
  obtain⟨q,ws,rfl,h2,k2⟩:=vb.dg
  refine Ap pins s σ H (.ref p) (.ref q) v u Q I rx ry ⟨p,q,vs,ws,rfl,rfl,hK ▸ h1,hK ▸ h2,k2.ne hl.1,by rw[<-k1.length,<-k2.length];exact hl.2,λ hx=>?_,λ _ r hr=>ho.tup sr hr (k1.append k2)⟩
  have EI:vs=[]:=hx
  subst EI
  exact ho.aS sr (jL h2 (k1.append k2))
 ·obtain⟨xs,e1,ho⟩:=ho.ar
  obtain⟨ys,e2,ho⟩:=ho.ar
  obtain⟨hl,ho⟩:=ho.a9
  obtain⟨p,vs,rfl,_,h1,k1⟩:=sr.fw (aB e1) va
  obtain⟨q,ws,rfl,_,h2,k2⟩:=sr.fw (aB e2) vb
  refine Ht pins s σ H (.ref p) (.ref q) v u Q I rx ry ⟨p,q,vs,ws,rfl,rfl,h1,h2,by rw[<-k1.length,<-k2.length];exact hl,λ r hr=>ho.alloc sr hr ?_⟩
  exact OR.lst aw (aO.gr ((sr.eK hr).add hr).toGr (k1.append k2))
def KD:AV->AV->S->R AV
 | .int i,.int j,s=>.ok (.int (i - j)) s
 | _,_,_=>.bad
noncomputable def jU:AV->AV->S->R AV
 | .int i,.int j,s=>if CA i/\CA j then .ok (.int (i * j)) s else .bad
 | _,_,_=>.bad
theorem OF:iC X (binaryOp .Mult) (qo T XE jU):=by
 intro pins s σ H x y v u Q I rx ry ⟨ρ,a,b,st,sr,va,vb,ho⟩
 cases a<;>cases b<;>try exact ho.elim
 obtain⟨hl,ho⟩:=ho.a9
 exact DI pins s σ H x y v u Q I rx ry ⟨_,_,va.int_inv,vb.int_inv,⟨hl.1.f,hl.2.f⟩,ho.aS sr eI⟩
noncomputable def mZ:AV->AV->S->R AV
 | .int i,.int j,s=>if j≠0/\Jt j then .ok (.int (i.fdiv j)) s else .bad
 | _,_,_=>.bad
theorem KP:iC X (binaryOp .FloorDiv) (qo T XE mZ):=by
 intro pins s σ H x y v u Q I rx ry ⟨ρ,a,b,st,sr,va,vb,ho⟩
 cases a<;>cases b<;>try exact ho.elim
 obtain⟨hl,ho⟩:=ho.a9
 exact Ao pins s σ H x y v u Q I rx ry ⟨_,_,va.int_inv,vb.int_inv,⟨hl.1,hl.2.f⟩,ho.aS sr eI⟩
def h_:AV->AV->S->R AV
 | .int i,.int j,s=>if j≠0 then .ok (.int (i.fmod j)) s else .bad
 | _,_,_=>.bad
theorem oMod:iC X (binaryOp .Mod) (qo T XE h_):=by
 intro pins s σ H x y v u Q I rx ry ⟨ρ,a,b,st,sr,va,vb,ho⟩
 cases a<;>cases b<;>try exact ho.elim
 obtain⟨hl,ho⟩:=ho.a9
 exact DJ pins s σ H x y v u Q I rx ry ⟨_,_,va.int_inv,vb.int_inv,hl,ho.aS sr eI⟩
instance {i j:Int}:Decidable (Fy i j):=inferInstanceAs (Decidable (0<=j/\j<=1000000/\i.natAbs < 2 ^ 64))
def wN:AV->AV->S->R AV
 | .int i,.int j,s=>if Fy i j then .ok (.int (i ^ j.toNat)) s else .bad
 | _,_,_=>.bad
theorem OD:iC X (binaryOp .Pow) (qo T XE wN):=by
 intro pins s σ H x y v u Q I rx ry ⟨ρ,a,b,st,sr,va,vb,ho⟩
 cases a<;>cases b<;>try exact ho.elim
 obtain⟨hl,ho⟩:=ho.a9
 exact Ho pins s σ H x y v u Q I rx ry ⟨_,_,va.int_inv,vb.int_inv,hl,ho.aS sr eI⟩
def wO:AV->S->R AV
 | .int i,s=>.ok (.int (-i)) s
 | _,_=>.bad
theorem OE:M0 X (unaryOp .USub) (Ox T XE wO):=by
 intro pins s σ H x v Q I rx ⟨ρ,a,st,sr,va,ho⟩
 cases a<;>try exact ho.elim
 exact Gq pins s σ H x v Q I rx ⟨_,va.int_inv,ho.aS sr eI⟩
def Aq:AV->AV->S->R AV
 | .int i,.int j,s=>.ok (.bl (decide (i < j))) s
 | .str i,.str j,s=>.ok (.bl (decide (i.cps.toList < j.cps.toList))) s
 | _,_,_=>.bad
theorem oLt:iC X (compareOp .Lt) (qo T XE Aq):=by
 intro pins s σ H x y v u Q I rx ry ⟨ρ,a,b,st,sr,va,vb,ho⟩
 cases a<;>cases b<;>try exact ho.elim
 ·exact Ky pins s σ H x y v u Q I rx ry ⟨_,_,va.int_inv,vb.int_inv,ho.aS sr dW⟩
 ·exact ye pins s σ H x y v u Q I rx ry ⟨_,_,va.str_inv,vb.str_inv,ho.aS sr dW⟩
def OB:AV->AV->S->R AV
 | .int i,.int j,s=>.ok (.bl (decide (i<=j))) s
 | _,_,_=>.bad
def vG:AV->AV->S->R AV
 | .int i,.int j,s=>.ok (.bl (decide (j < i))) s
 | _,_,_=>.bad
theorem QA:iC X (compareOp .Gt) (qo T XE vG):=by
 intro pins s σ H x y v u Q I rx ry ⟨ρ,a,b,st,sr,va,vb,ho⟩
 cases a<;>cases b<;>try exact ho.elim
 exact Kz pins s σ H x y v u Q I rx ry ⟨_,_,va.int_inv,vb.int_inv,ho.aS sr dW⟩
def As:AV->AV->S->R AV
 | .int i,.int j,s=>.ok (.bl (decide (j<=i))) s
 | _,_,_=>.bad
theorem QB:iC X (compareOp .GtE) (qo T XE As):=by
 intro pins s σ H x y v u Q I rx ry ⟨ρ,a,b,st,sr,va,vb,ho⟩
 cases a<;>cases b<;>try exact ho.elim
 exact KA pins s σ H x y v u Q I rx ry ⟨_,_,va.int_inv,vb.int_inv,ho.aS sr dW⟩
def toD:Nat->S->AV->Option Dt
 | _,_,.aC=>some .aC
 | _,_,.bl b=>some (.bl b)
 | _,_,.int b=>some (.int b)
 | _,_,.str b=>some (.str b)
 | n+1,s,.tup xs=>(xs.mapM (toD n s)).map .tup
 | n+1,s,.sq xs=>(xs.mapM (toD n s)).map .lst
 | n+1,s,.ref i=>(ak s i).bind λ xs=>(xs.mapM (toD n s)).map .lst
 | _,_,_=>none
theorem vO {α β:Type}{f:α->Option β}{a:α}{l:List α}{r:List β}(h:(a :: l).mapM f=some r):∃ b q,f a=some b/\l.mapM f=some q/\r=b :: q:=by
 rw[List.mapM_cons]at h
 cases e1:f a with
 | none=>rw[e1]at h;cases h
 | some b=>
  cases e2:l.mapM f with
  | none=>rw[e1,e2]at h;cases h
  | some q=>rw[e1,e2]at h;cases h;exact⟨b,q,rfl,rfl,rfl⟩
theorem oC {ρ:List Addr}{H:Hp}{f:AV->Option Dt}(hf:∀ v d x,f v=some d->VR T ρ H v x->Rep T.K (λ _=>False) H d x):∀ {xs:List AV}{l:List Dt}{vs:List V},xs.mapM f=some l->aO T ρ H xs vs->dq T.K (λ _=>False) H l vs
 | [],l,vs,h,k=>by
  rw[List.mapM_nil]at h
  cases h
  unfold dq
  exact k.nil_inv
 | a :: r,l,vs,h,k=>by
  obtain⟨b,q,h1,h2,rfl⟩:=vO h
  obtain⟨x,ys,rfl,k1,k2⟩:=k.cons_inv
  unfold dq
  exact⟨x,ys,rfl,hf a b x h1 k1,oC hf h2 k2⟩
theorem lE {ρ:List Addr}{H:Hp}{s:S}(sr:SR T ρ s H):∀ (n:Nat) (v:AV) (d:Dt) (x:V),toD n s v=some d->VR T ρ H v x->Rep T.K (λ _=>False) H d x
 | n,.aC,d,x,h,k=>by
  have h:some Dt.aC=some d:=by cases n<;>exact h
  cases h;unfold Rep;exact k.gH
 | n,.bl b,d,x,h,k=>by
  have h:some (Dt.bl b)=some d:=by cases n<;>exact h
  cases h;unfold Rep;exact k.hJ
 | n,.int b,d,x,h,k=>by
  have h:some (Dt.int b)=some d:=by cases n<;>exact h
  cases h;unfold Rep;exact k.int_inv
 | n,.str b,d,x,h,k=>by
  have h:some (Dt.str b)=some d:=by cases n<;>exact h
  cases h;unfold Rep;exact k.str_inv
 | 0,.tup xs,d,x,h,k=>by cases h
 | 0,.sq xs,d,x,h,k=>by cases h
 | 0,.ref xs,d,x,h,k=>by cases h
 | n+1,.tup xs,d,x,h,k=>by
  have h:(xs.mapM (toD n s)).map Dt.tup=some d:=h
  obtain⟨a,vs,rfl,h1,k1⟩:=k.dg
  cases e:xs.mapM (toD n s) with
  | none=>rw[e]at h;cases h
  | some l=>
   rw[e]at h;cases h
   unfold Rep
   exact⟨a,vs,rfl,λ z=>z,h1,oC (λ v d x=>lE sr n v d x) e k1⟩
 | n+1,.sq xs,d,x,h,k=>by
  have h:(xs.mapM (toD n s)).map Dt.lst=some d:=h
  obtain⟨a,vs,rfl,h1,k1⟩:=k.fW
  cases e:xs.mapM (toD n s) with
  | none=>rw[e]at h;cases h
  | some l=>
   rw[e]at h;cases h
   unfold Rep
   exact⟨a,vs,rfl,λ z=>z,h1.xX,oC (λ v d x=>lE sr n v d x) e k1⟩
 | n+1,.ref i,d,x,h,k=>by
  have h:(ak s i).bind (λ xs=>(xs.mapM (toD n s)).map Dt.lst)=some d:=h
  cases e0:ak s i with
  | none=>rw[e0]at h;cases h
  | some xs=>
   rw[e0]at h
   have h:(xs.mapM (toD n s)).map Dt.lst=some d:=h
   obtain⟨a,vs,rfl,_,h1,k1⟩:=sr.fw (aB e0) k
   cases e:xs.mapM (toD n s) with
   | none=>rw[e]at h;cases h
   | some l=>
    rw[e]at h;cases h
    unfold Rep
    exact⟨a,vs,rfl,λ z=>z,fB.of h1,oC (λ v d x=>lE sr n v d x) e k1⟩
def BL (s:S):AV->AV->Option Bool
 | .aC,.aC=>some true
 | .aC,.int _=>some false|.int _,.aC=>some false|.aC,.bl _=>some false|.bl _,.aC=>some false|.aC,.str _=>some false|.str _,.aC=>some false
 | .int i,.int j=>some (decide (i=j))
 | .bl i,.bl j=>some (decide (i=j))
 | .str i,.str j=>some (decide (i=j))
 | .int _,.str _=>some false|.str _,.int _=>some false|.bl _,.str _=>some false|.str _,.bl _=>some false
 | v,w=>match toD 20 s v,toD 20 s w with
  | some (.tup l),some (.tup q)=>if dc l<=20 then some (g9 l q) else none
  | some (.lst l),some (.lst q)=>if dc l<=20 then some (g9 l q) else none
  | _,_=>none
def dQ (v w:AV)(s:S):R AV:=need (BL s v w) λ b=>.ok (.bl b) s
def pq (v w:AV)(s:S):R AV:=need (BL s v w) λ b=>.ok (.bl (!b)) s
def Cd (s:S)(v w:AV)(b:Bool):Prop:=∃ (c:Bool) (l q:List Dt),toD 20 s v=some (if c then .tup l else .lst l)/\toD 20 s w=some (if c then .tup q else .lst q)/\dc l<=20/\b=g9 l q
theorem yD {s:S}{v w:AV}{b:Bool}(h:(match toD 20 s v,toD 20 s w with
  | some (.tup l),some (.tup q)=>if dc l<=20 then some (g9 l q) else none
  | some (.lst l),some (.lst q)=>if dc l<=20 then some (g9 l q) else none
  | _,_=>none)=some b):Cd s v w b:=by
 split at h
 ·rename_i l q e1 e2
  split at h
  ·rename_i hd
   cases h
   exact⟨true,l,q,e1,e2,hd,rfl⟩
  ·cases h
 ·rename_i l q e1 e2
  split at h
  ·rename_i hd
   cases h
   exact⟨false,l,q,e1,e2,hd,rfl⟩
  ·cases h
 ·cases h
theorem uP {ρ:List Addr}{H:Hp}{s:S}{v w:AV}{b:Bool}{x y:V}(h:BL s v w=some b)(va:VR T ρ H v x)(vb:VR T ρ H w y):(GJ x y=true/\decide (x=y)=b)∨Cd s v w b:=by
  cases v<;>cases w<;>first
    | exact .inr (yD h)
    | (refine .inl ?_
       have h:some _=some b:=h
       cases h
       first
         | cases va.gH|cases va.int_inv|cases va.hJ|cases va.str_inv
       first
         | cases vb.gH|cases vb.int_inv|cases vb.hJ|cases vb.str_inv
       refine⟨rfl,?_⟩
       first
         | rfl
         | simp)
theorem oEq (hK:X.K=T.K)(hu:X.A.units+30 < cLine):iC X (compareOp .Eq) (qo T XE dQ):=by
 intro pins s σ H x y v u Q I rx ry ⟨ρ,a,b,st,sr,va,vb,ho⟩
 obtain⟨c,e,ho⟩:=ho.ar
 rcases uP e va vb with⟨h1,h2⟩|⟨t,l,q,e1,e2,hd,rfl⟩
 ·exact KC pins s σ H x y v u Q I rx ry ⟨h1,by rw[h2];exact ho.aS sr dW⟩
 ·refine Hs hu pins s σ H x y v u Q I rx ry ⟨λ _=>False,λ _=>False,l,q,t,⟨?_,?_⟩,hd,ho.aS sr dW⟩
  ·exact hK ▸ lE sr 20 _ _ _ e1 va
  ·exact hK ▸ lE sr 20 _ _ _ e2 vb
theorem Qz (hK:X.K=T.K)(hu:X.A.units+30 < cLine):iC X (compareOp .NotEq) (qo T XE pq):=by
 intro pins s σ H x y v u Q I rx ry ⟨ρ,a,b,st,sr,va,vb,ho⟩
 obtain⟨c,e,ho⟩:=ho.ar
 rcases uP e va vb with⟨h1,h2⟩|⟨t,l,q,e1,e2,hd,rfl⟩
 ·exact Kx pins s σ H x y v u Q I rx ry ⟨h1,by rw[h2];exact ho.aS sr dW⟩
 ·refine Hq hu pins s σ H x y v u Q I rx ry ⟨λ _=>False,λ _=>False,l,q,t,⟨?_,?_⟩,hd,ho.aS sr dW⟩
  ·exact hK ▸ lE sr 20 _ _ _ e1 va
  ·exact hK ▸ lE sr 20 _ _ _ e2 vb
def il:AV->Bool
 | .aC=>true
 | _=>false
def jV:AV->AV->S->R AV
 | v,.aC,s=>.ok (.bl (il v)) s
 | _,_,_=>.bad
def DL:AV->AV->S->R AV
 | v,.aC,s=>.ok (.bl (!il v)) s
 | .bl a,.bl b,s=>.ok (.bl (a != b)) s
 | _,_,_=>.bad
theorem Bi {ρ:List Addr}{H:Hp}{v:AV}{x:V}(h:VR T ρ H v x):decide (x=.aC)=il v:=by
 cases v
 ·cases h.gH;rfl
 ·cases h.hJ;rfl
 ·cases h.int_inv;rfl
 ·cases h.str_inv;rfl
 ·obtain⟨_,_,rfl,_⟩:=h.dg;rfl
 ·obtain⟨_,_,rfl⟩:=h.fK;rfl
 ·obtain⟨_,_,rfl,_⟩:=h.fW;rfl
theorem KN:iC X (compareOp .Is) (qo T XE jV):=by
 intro pins s σ H x y v u Q I rx ry ⟨ρ,a,b,st,sr,va,vb,ho⟩
 cases b<;>try (cases a<;>exact ho.elim)
 exact Hr pins s σ H x y v u Q I rx ry ⟨vb.gH,by rw[Bi va];cases a<;>exact ho.aS sr dW⟩
end
end Mm
namespace Mm
open PySem L2
section
variable {T:Tx}{XE:gJ}{X:Cx}{pos:Pos}
def ae:eG:=λ _ s=>.ok [] s
def aa (a:Ev)(r:eG):eG:=λ env s=>(a env s).bind λ v s1=>(r env s1).bind λ vs s2=>.ok (v :: vs) s2
theorem wK:PA X [] (tP T XE ae):=PA.imp fF λ σ H Q ⟨ρ,env,s,hs,he,ho⟩=>ho.here (x:=[]) hs (aO.nil (T:=T) (ρ:=ρ) (H:=H))
theorem uj {e:Expr}{es:List Expr}{m:Ev}{r:eG}(ha:PE X e (tE T XE m)) (hr:PA X es (tP T XE r)) (hs:starEach (e :: es) X.env=(false,eval e X.env) :: starEach es X.env:=by rfl):PA X (e :: es) (tP T XE (aa m r)):=
 PA.imp (cb ha hr hs) λ σ H Q ⟨ρ,env,s,hs,he,ho⟩=>
  step hs he ho λ v s1 ρ1 H1 x _ u1 aT cz aN az=>step aT cz az λ w s2 ρ2 H2 y _ u2 fD lS iE cZ=>cZ.here fD (aO.cons (VR.up u2 aN) iE)
def iG (r:eG):Ev:=λ env s=>(r env s).bind λ vs s1=>if vs.length<=sizeLine then .ok (.tup vs) s1 else .bad
theorem HU {es:List Expr}{k:Nat}{r:eG}(h:PA X es (tP T XE r)):PE X (.Tuple es k pos) (tE T XE (iG r)):=
 PE.imp (Aa h) λ σ H Q ⟨ρ,env,s,hs,he,ho⟩=>step hs he ho λ v s1 ρ1 H1 x _ u1 aT cz aN az=>by
  obtain⟨hl,az⟩:=az.a9
  have aN:aO T ρ1 H1 v x:=aN
  exact⟨by rw[<-aN.length];exact hl,λ p hp=>az.tup aT hp aN⟩
def bS (r:eG):eG:=λ env s=>(r env s).bind λ vs s1=>if vs.length<=sizeLine then .ok vs s1 else .bad
theorem HM {es:List Expr}{r:eG}(h:PA X es (tP T XE r)):PE X (.List es pos) (tL T XE (bS r)):=
 PE.imp (Hg h) λ σ H Q ⟨ρ,env,s,hs,he,ho⟩=>step hs he ho λ v s1 ρ1 H1 x _ u1 aT cz aN az=>by
  obtain⟨hl,az⟩:=az.a9
  have aN:aO T ρ1 H1 v x:=aN
  exact⟨by rw[<-aN.length];exact hl,λ p hp=>az.lst aT hp aN⟩
def aP (r:eG):Ev:=λ env s=>(r env s).bind λ vs s1=>.ok (.ref s1.length) (s1++[.lst vs])
theorem HZ {e:Expr}{r:eG}(h:PE X e (tL T XE r)):PE X e (tE T XE (aP r)):=
 PE.imp h λ σ H Q ⟨ρ,env,s,hs,he,ho⟩=>by
  refine⟨ρ,env,s,hs,he,?_⟩
  unfold aP at ho
  cases e:r env s with
  | bad=>rw[e]at ho;exact ho
  | ex c s1=>rw[e]at ho;exact ho
  | ok vs s1=>
   rw[e]at ho
   intro ρ1 H1 x u sr ⟨a,ws,e1,h0,h1,h2,k⟩
   subst e1
   have g:Gr ρ1 H1 (ρ1++[a]) H1:=⟨List.prefix_append _ _,λ _ _ z=>z,λ _ _ _ z=>z⟩
   refine ho (ρ1++[a]) H1 (.ref a) (u.add h0) (sr.add h1 (OR.lst h2 (k.gr g))) (lu (T:=T) (H:=H1) ?_)
   rw[List.getElem?_append_right (by rw[sr.len];exact Nat.le_refl _),sr.len,Nat.sub_self];rfl
def items (v:AV)(s:S):Option (List AV):=match v with
 | .tup xs=>some xs
 | .sq xs=>some xs
 | .ref i=>ak s i
 | _=>none
theorem kN {ρ:List Addr}{H:Hp}{s:S}{v:AV}{xs:List AV}{x:V}(h:items v s=some xs)(sr:SR T ρ s H)(va:VR T ρ H v x):∃ a vs,x=.ref a/\(fB T.K H a vs∨hW T.K H a vs)/\aO T ρ H xs vs:=by
 cases v<;>try cases h
 ·obtain⟨a,vs,rfl,h1,k⟩:=va.dg
  exact⟨a,vs,rfl,.inr h1,k⟩
 ·obtain⟨a,vs,rfl,_,h1,k⟩:=sr.fw (aB h) va
  exact⟨a,vs,rfl,.inl (fB.of h1),k⟩
 ·obtain⟨a,vs,rfl,h1,k⟩:=va.fW
  exact⟨a,vs,rfl,.inl h1.xX,k⟩
def Ez (m:Ev):eG:=λ env s=>(m env s).bind λ v s1=>need (items v s1) λ xs=>.ok xs s1
theorem HL {e:Expr}{m:Ev}(h:PE X e (tE T XE m)):PE X e (tQ T XE (Ez m)):=
 PE.imp h λ σ H Q ⟨ρ,env,s,hs,he,ho⟩=>step hs he ho λ v s1 ρ1 H1 x _ u1 aT cz aN az=>by
  obtain⟨xs,e,az⟩:=az.ar
  exact az ρ1 H1 x .refl aT (kN e aT aN)
mutual
def AV.low (b:Nat):AV->Bool
 | .ref i=>decide (i < b)
 | .tup xs=>aR b xs
 | .sq xs=>aR b xs
 | _=>true
def aR (b:Nat):List AV->Bool
 | []=>true
 | v :: r=>v.low b && aR b r
end
mutual
theorem VR.cut {ρ ρ':List Addr}{H:Hp}{b:Nat}(e:ρ'.take b=ρ):∀ {v:AV}{x:V},v.low b=true->VR T ρ' H v x->VR T ρ H v x
 | .aC,_,_,h=>by unfold VR at *;exact h
 | .bl _,_,_,h=>by unfold VR at *;exact h
 | .int _,_,_,h=>by unfold VR at *;exact h
 | .str _,_,_,h=>by unfold VR at *;exact h
 | .ref i,_,k,h=>by
  obtain⟨a,e1,rfl⟩:=h.fK
  unfold AV.low at k
  exact lu (by rw[<-e,List.getElem?_take_of_lt (of_decide_eq_true k)];exact e1)
 | .tup xs,_,k,h=>by
  obtain⟨a,vs,rfl,h1,h2⟩:=h.dg
  unfold AV.low at k
  exact jL h1 (aO.cut e k h2)
 | .sq xs,_,k,h=>by
  obtain⟨a,vs,rfl,h1,h2⟩:=h.fW
  unfold AV.low at k
  unfold VR
  exact⟨a,vs,rfl,h1,aO.cut e k h2⟩
theorem aO.cut {ρ ρ':List Addr}{H:Hp}{b:Nat}(e:ρ'.take b=ρ):∀ {v:List AV}{x:List V},aR b v=true->aO T ρ' H v x->aO T ρ H v x
 | [],_,_,h=>by cases h.nil_inv;exact .nil
 | _ :: _,_,k,h=>by
  obtain⟨x,ys,rfl,h1,h2⟩:=h.cons_inv
  unfold aR at k
  rw[Bool.and_eq_true]at k
  exact .cons (VR.cut e k.1 h1) (aO.cut e k.2 h2)
end
mutual
theorem VR.low {ρ:List Addr}{H:Hp}:∀ {v:AV}{x:V},VR T ρ H v x->v.low ρ.length=true
 | .aC,_,_=>by unfold AV.low;rfl
 | .bl _,_,_=>by unfold AV.low;rfl
 | .int _,_,_=>by unfold AV.low;rfl
 | .str _,_,_=>by unfold AV.low;rfl
 | .ref i,_,h=>by
  obtain⟨a,e1,rfl⟩:=h.fK
  unfold AV.low
  exact decide_eq_true (List.getElem?_eq_some_iff.mp e1).1
 | .tup xs,_,h=>by
  obtain⟨a,vs,rfl,h1,h2⟩:=h.dg
  unfold AV.low
  exact aO.low h2
 | .sq xs,_,h=>by
  obtain⟨a,vs,rfl,h1,h2⟩:=h.fW
  unfold AV.low
  exact aO.low h2
theorem aO.low {ρ:List Addr}{H:Hp}:∀ {v:List AV}{x:List V},aO T ρ H v x->aR ρ.length v=true
 | [],_,_=>by unfold aR;rfl
 | _ :: _,_,h=>by
  obtain⟨x,ys,rfl,h1,h2⟩:=h.cons_inv
  unfold aR
  rw[VR.low h1,aO.low h2];rfl
end
def AO.low (b:Nat):AO->Bool
 | .lst xs=>aR b xs
 | .dK kvs=>aR b (kvs.map (·.2))
 | .dT kvs=>aR b (kvs.map (·.2))
 | .ins _ fs=>aR b (fs.map (·.2))
 | .exc _=>true
 | .tab _ _=>true
theorem OR.low {ρ:List Addr}{H:Hp}{o:AO}{a:Addr}(h:OR T ρ H o a):o.low ρ.length=true:=by
 cases o with
 | lst xs=>obtain⟨_,_,k⟩:=h;exact k.low
 | dK xs=>obtain⟨_,_,_,k⟩:=h;exact k.low
 | dT xs=>obtain⟨_,_,_,k⟩:=h;exact k.low
 | ins C xs=>obtain⟨_,_,_,_,k⟩:=h;exact k.low
 | exc C=>rfl
 | tab i q=>rfl
theorem OR.cut {ρ ρ':List Addr}{H:Hp}{b:Nat}(e:ρ'.take b=ρ){o:AO}{a:Addr}(k:o.low b=true)(h:OR T ρ' H o a):OR T ρ H o a:=by
 cases o with
 | lst xs=>obtain⟨vs,h1,h2⟩:=h;exact⟨vs,h1,aO.cut e k h2⟩
 | dK xs=>obtain⟨vs,h1,q,h2⟩:=h;exact⟨vs,h1,q,aO.cut e k h2⟩
 | dT xs=>obtain⟨vs,h1,q,h2⟩:=h;exact⟨vs,h1,q,aO.cut e k h2⟩
 | ins C xs=>obtain⟨dx,vs,h1,q,h2⟩:=h;exact⟨dx,vs,h1,q,aO.cut e k h2⟩
 | exc C=>exact h
 | tab i q=>exact h
theorem SR.closed {ρ:List Addr}{H:Hp}{s:S}(sr:SR T ρ s H):s.all (AO.low s.length)=true:=by
 rw[List.all_eq_true]
 intro o ho
 obtain⟨i,hi,e⟩:=List.getElem_of_mem ho
 obtain⟨a,_,q⟩:=sr.obj i o (by rw[List.getElem?_eq_getElem hi,e])
 rw[<-sr.len]
 exact q.low
theorem SR.cut {ρ ρ':List Addr}{H:Hp}{s':S}{b:Nat}(sr:SR T ρ' s' H)(hl:ρ <+: ρ')(hb:ρ.length=b)(k:(s'.take b).all (AO.low b)=true):SR T ρ (s'.take b) H:=by
 have e:ρ'.take b=ρ:=by obtain⟨t,rfl⟩:=hl;rw[<-hb,List.take_left'];rfl
 have hle:b<=s'.length:=by rw[<-hb,<-sr.len];exact hl.length_le
 refine⟨?_,by rw[List.length_take,Nat.min_eq_left hle];exact hb,λ i o ei=>?_⟩
 ·rw[<-e];exact sr.nd.sublist (List.take_sublist _ _)
 ·have hi:i < b:=by have:=(List.getElem?_eq_some_iff.mp ei).1;rw[List.length_take]at this;omega
  have S4:=ei
  rw[List.getElem?_take_of_lt hi]at ei
  obtain⟨a,e1,q⟩:=sr.obj i o ei
  refine⟨a,by rw[<-e,List.getElem?_take_of_lt hi];exact e1,q.cut e ?_⟩
  exact List.all_eq_true.mp k o (List.mem_of_getElem? S4)
theorem Up.cut {ρ ρ':List Addr}{H H':Hp}(u:Up ρ H ρ' H'):Up ρ H ρ H':=⟨⟨List.prefix_rfl,u.jE,u.iJ⟩,λ b o e n=>⟨(u.fr b o e n).1,n⟩,u.live⟩
noncomputable def Cq (m:Ev):Ev:=λ env s=>(m env s).bind λ v s1=>open Classical in if s1.take s.length=s/\v.low s.length=true then .ok v s else .bad
theorem Ld {e:Expr}{m:Ev}(h:PE X e (tE T XE m)):PE X e (tE T XE (Cq m)):=
 PE.imp h λ σ H Q ⟨ρ,env,s,hs,he,ho⟩=>by
  refine⟨ρ,env,s,hs,he,?_⟩
  unfold Cq at ho
  cases e:m env s with
  | bad=>rw[e]at ho;exact ho
  | ex c s1=>rw[e]at ho;exact ho
  | ok v s1=>
   rw[e]at ho
   obtain⟨⟨e1,e2⟩,ho⟩:=ho.a9
   intro ρ1 H1 x u sr vr
   have hc:=hs.closed
   have et:ρ1.take s.length=ρ:=by obtain⟨t,rfl⟩:=u.pre;rw[<-hs.len,List.take_left'];rfl
   refine ho ρ H1 x u.cut ?_ (VR.cut et e2 vr)
   have:=sr.cut u.pre hs.len (by rw[e1];exact hc)
   rw[e1]at this
   exact this
def FX (m:Ev):Ev:=λ env s=>(m env s).bind λ v s1=>if (s1.take s.length).all (AO.low s.length)=true/\v.low s.length=true then .ok v (s1.take s.length) else .bad
theorem Ig {e:Expr}{m:Ev}(h:PE X e (tE T XE m)):PE X e (tE T XE (FX m)):=
 PE.imp h λ σ H Q ⟨ρ,env,s,hs,he,ho⟩=>by
  refine⟨ρ,env,s,hs,he,?_⟩
  unfold FX at ho
  cases e:m env s with
  | bad=>rw[e]at ho;exact ho
  | ex c s1=>rw[e]at ho;exact ho
  | ok v s1=>
   rw[e]at ho
   obtain⟨⟨e1,e2⟩,ho⟩:=ho.a9
   intro ρ1 H1 x u sr vr
   have et:ρ1.take s.length=ρ:=by obtain⟨t,rfl⟩:=u.pre;rw[<-hs.len,List.take_left'];rfl
   exact ho ρ H1 x u.cut (sr.cut u.pre hs.len e1) (VR.cut et e2 vr)
def kg (m:Ev):eG:=λ env s=>(m env s).bind λ v s1=>match v with
 | .ref k=>need (ak s1 k) λ xs=>if s.length<=k/\(s1.take s.length).all (AO.low s.length)=true/\aR s.length xs=true then .ok xs (s1.take s.length) else .bad
 | _=>.bad
theorem D6 {e:Expr}{m:Ev}(h:PE X e (tE T XE m)):PE X e (tL T XE (kg m)):=
 PE.imp h λ σ H Q ⟨ρ,env,s,hs,he,ho⟩=>by
  refine⟨ρ,env,s,hs,he,?_⟩
  unfold kg at ho
  cases e:m env s with
  | bad=>rw[e]at ho;exact ho
  | ex c s1=>rw[e]at ho;exact ho
  | ok v s1=>
   rw[e]at ho
   cases v with
   | ref k=>
    obtain⟨xs,e0,ho⟩:=ho.ar
    obtain⟨⟨hk,e1,e2⟩,ho⟩:=ho.a9
    intro ρ1 H1 x u sr vr
    obtain⟨a,vs,rfl,ea,h1,k1⟩:=sr.fw (aB e0) vr
    have et:ρ1.take s.length=ρ:=by obtain⟨t,rfl⟩:=u.pre;rw[<-hs.len,List.take_left'];rfl
    have na:a∉ρ:=λ z=>by
     obtain⟨j,hj,ej⟩:=List.getElem_of_mem z
     have e3:ρ1[j]? = some a:=wG u.pre (by rw[List.getElem?_eq_getElem hj,ej])
     have h3:=List.getElem?_eq_some_iff.mp ea
     have h4:=List.getElem?_eq_some_iff.mp e3
     have:k=j:=(List.getElem_inj sr.nd).mp (h3.2.trans h4.2.symm)
     rw[hs.len]at hj
     omega
    refine ho ρ H1 (.ref a) u.cut (sr.cut u.pre hs.len e1) ⟨a,vs,rfl,?_,na,h1,aO.cut et e2 k1⟩
    cases eH:H a with
    | none=>rfl
    | some o=>exact absurd (List.mem_of_getElem? ea) (u.fr a o eH na).2
   | aC=>exact ho.elim
   | bl b=>exact ho.elim
   | int b=>exact ho.elim
   | str b=>exact ho.elim
   | tup b=>exact ho.elim
   | sq b=>exact ho.elim
end
end Mm
namespace Mm
open PySem L2
section
variable {T:Tx}{XE:gJ}{X:Cx}{pos:Pos}
theorem uG {ρ:List Addr}{H:Hp}{b:Bool}{s:S}{Q:Bool->Hp->Prop}(h:Out T XE rB ρ H (.ok b s) Q) (sr:SR T ρ s H):Q b H:=h ρ H b .refl sr rfl
def truth (v:AV)(s:S):Option Bool:=match v with
 | .aC=>some false
 | .bl b=>some b
 | .int i=>some (i != 0)
 | .str x=>if x.length<=sizeLine then some ((x.length:Int) != 0) else none
 | .tup xs=>some (!xs.isEmpty)
 | .sq xs=>some (!xs.isEmpty)
 | .ref i=>match s[i]? with
  | some (.lst xs)=>some (!xs.isEmpty)
  | some (.dK xs)=>some (!xs.isEmpty)
  | _=>none
theorem aO.emp {ρ:List Addr}{H:Hp}{l:List AV}{xs:List V}(h:aO T ρ H l xs):l.isEmpty=xs.isEmpty:=by
 cases l with
 | nil=>cases h.nil_inv;rfl
 | cons a r=>obtain⟨x,ys,rfl,_⟩:=h.cons_inv;rfl
theorem xT {ρ:List Addr}{H:Hp}{s:S}{v:AV}{b:Bool}{x:V}(h:truth v s=some b)(sr:SR T ρ s H)(va:VR T ρ H v x):Jp T.K x H b:=by
 cases v with
 | aC=>cases va.gH;cases h;rfl
 | bl c=>cases va.hJ;cases h;rfl
 | int c=>cases va.int_inv;cases h;rfl
 | str c=>
  cases va.str_inv
  have h:(if c.length<=sizeLine then some ((c.length:Int) != 0) else none)=some b:=h
  split at h
  ·cases h;exact⟨by assumption,rfl⟩
  ·cases h
 | tup c=>
  obtain⟨a,vs,rfl,h1,k⟩:=va.dg
  cases h
  exact .inr (.inl ⟨vs,h1,by rw[k.emp]⟩)
 | sq c=>
  obtain⟨a,vs,rfl,h1,k⟩:=va.fW
  cases h
  exact .inl ⟨vs,h1.xX,by rw[k.emp]⟩
 | ref i=>
  have h:(match s[i]? with
   | some (.lst xs)=>some (!xs.isEmpty)
   | some (.dK xs)=>some (!xs.isEmpty)
   | _=>none)=some b:=h
  split at h
  ·rename_i xs e
   cases h
   obtain⟨a,vs,rfl,_,h1,k⟩:=sr.fw e va
   exact .inl ⟨vs,fB.of h1,by rw[k.emp]⟩
  ·rename_i xs e
   cases h
   obtain⟨a,vs,rfl,_,h1,k1,k⟩:=sr.qy e va
   refine .inr (.inr ⟨vs,h1,?_⟩)
   have:=congrArg List.length k1
   rw[List.length_map,List.length_map]at this
   cases xs<;>cases vs<;>first|rfl|(simp at this)
  ·cases h
def cT (m:Ev):Eb:=λ env s=>(m env s).bind λ v s1=>need (truth v s1) λ b=>.ok b s1
def cB (m:Ev):Eb:=λ env s=>(m env s).bind λ v s1=>match v with
 | .bl b=>.ok b s1
 | _=>.bad
theorem Oz {e:Expr}{m:Ev}(hK:X.K=T.K)(h:PE X e (tE T XE m)) (he:∀ whole,isTrue e X.env whole=(do let v <-whole;standAt e.pos;holding [v] (truthy v)):=by intro _;rfl):PT X e (jQ T XE (cT m)):=
 PT.imp (zN h he) λ σ H Q ⟨ρ,env,s,hs,he,ho⟩=>step hs he ho λ v s1 ρ1 H1 x _ u1 aT cz aN az=>by
  obtain⟨b,e,az⟩:=az.ar
  exact⟨b,by rw[hK];exact xT e aT aN,uG az aT⟩
theorem zv {m:Ev}{σ:St}{H:Hp}{Q:Bool->Hp->Prop}(h:jQ T XE (cB m) σ H Q):tE T XE m σ H λ x H'=>∃ k,x=.bl k/\Q k H':=by
 obtain⟨ρ,env,s,hs,he,ho⟩:=h
 refine step hs he ho λ v s1 ρ1 H1 x _ u1 aT cz aN az=>?_
 have aN:VR T ρ1 H1 v x:=aN
 cases v<;>try exact az.elim
 exact⟨_,aN.hJ,uG az aT⟩
theorem gG {o:CmpOp}{op:AV->AV->S->R AV}{a b:Expr}{m1 m2:Ev}(Bo:iC X (compareOp o) (qo T XE op)) (ha:PE X a (tE T XE m1)) (hb:PE X b (tE T XE m2)) (hm:behindInMarks o b=false:=by rfl):PT X (.Compare a [o] [b] pos) (jQ T XE (cB (ag op m1 m2))):=
 PT.imp (Di Bo ha hb hm) λ σ H Q h=>t2 (zv h)
def OU (op RJ:AV->AV->S->R AV)(a b c:Ev):Ev:=λ env s=>(a env s).bind λ v s1=>(b env s1).bind λ w s2=>(op v w s2).bind λ r s3=>match r with
 | .bl true=>(c env s3).bind λ z s4=>RJ w z s4
 | .bl false=>.ok (.bl false) s3
 | _=>.bad
def MY (a b:Eb):Eb:=λ env s=>(a env s).bind λ c s1=>if c=true then b env s1 else .ok false s1
def Cv (a b:Eb):Eb:=λ env s=>(a env s).bind λ c s1=>if c=true then .ok true s1 else b env s1
def tm (a:Eb):Eb:=λ env s=>(a env s).bind λ c s1=>.ok (!c) s1
def Jx (c:Eb)(a b:Ev):Ev:=λ env s=>(c env s).bind λ k s1=>if k=true then a env s1 else b env s1
theorem pw_or1' {a:Expr}{m:Eb}(h:PT X a (jQ T XE m)):PW X (.BoolOp .Or [a] pos) (jQ T XE m):=pw_or1 h
theorem pw_or' {a b:Expr}{rest:List Expr}{m r:Eb}(h:PT X a (jQ T XE m)) (k:PW X (.BoolOp .Or (b :: rest) pos) (jQ T XE r)):PW X (.BoolOp .Or (a :: b :: rest) pos) (jQ T XE (Cv m r)):=
 PW.imp (pw_or h k) λ σ H Q ⟨ρ,env,s,hs,he,ho⟩=>step hs he ho λ v s1 ρ1 H1 x _ u1 aT cz aN az=>by
  cases (show v=x from aN)
  cases v with
  | true=>exact uG az aT
  | false=>exact⟨ρ1,env,s1,aT,cz,az⟩
theorem Dd {a:Expr}{m:Eb}(h:PT X a (jQ T XE m)):PT X (.UnaryOp .Not a pos) (jQ T XE (tm m)):=
 PT.imp (GY h) λ σ H Q ⟨ρ,env,s,hs,he,ho⟩=>step hs he ho λ v s1 ρ1 H1 x _ u1 aT cz aN az=>by
  cases (show v=x from aN)
  exact uG az aT
theorem Lb {c a b:Expr}{sH:Eb}{ma mb:Ev}(hc:PT X c (jQ T XE sH)) (ha:PE X a (tE T XE ma)) (hb:PE X b (tE T XE mb)):PE X (.IfExp c a b pos) (tE T XE (Jx sH ma mb)):=
 PE.imp (Af hc ha hb) λ σ H Q ⟨ρ,env,s,hs,he,ho⟩=>step hs he ho λ v s1 ρ1 H1 x _ u1 aT cz aN az=>by
  cases (show v=x from aN)
  cases v with
  | true=>exact⟨ρ1,env,s1,aT,cz,az⟩
  | false=>exact⟨ρ1,env,s1,aT,cz,az⟩
def sI (a b:Ev):Ev:=λ env s=>(a env s).bind λ v s1=>match v with
 | .bl true=>b env s1
 | .bl false=>.ok (.bl false) s1
 | _=>.bad
def Ni (a b:Ev):Ev:=λ env s=>(a env s).bind λ v s1=>match v with
 | .bl true=>.ok (.bl true) s1
 | .bl false=>b env s1
 | _=>.bad
def qQ:AV->S->R AV
 | .bl b,s=>.ok (.bl (!b)) s
 | _,_=>.bad
theorem HW {op:BoolOp}{a:Expr}{m:Ev}(h:PE X a (tE T XE m)):PE X (.BoolOp op [a] pos) (tE T XE m):=Hc h
theorem Ik {a b:Expr}{rest:List Expr}{m r:Ev}(h:PE X a (tE T XE m)) (k:PE X (.BoolOp .And (b :: rest) pos) (tE T XE r)):PE X (.BoolOp .And (a :: b :: rest) pos) (tE T XE (sI m r)):=
 PE.imp (Hm h k) λ σ H Q ⟨ρ,env,s,hs,he,ho⟩=>step hs he ho λ v s1 ρ1 H1 x _ u1 aT cz aN az=>by
  have aN:VR T ρ1 H1 v x:=aN
  cases v<;>try exact az.elim
  rename_i b _ _
  refine⟨b,aN.hJ,?_⟩
  cases b with
  | true=>exact⟨ρ1,env,s1,aT,cz,az⟩
  | false=>exact az.aS aT dW
theorem K' {a b:Expr}{rest:List Expr}{m r:Ev}(h:PE X a (tE T XE m)) (k:PE X (.BoolOp .Or (b :: rest) pos) (tE T XE r)):PE X (.BoolOp .Or (a :: b :: rest) pos) (tE T XE (Ni m r)):=
 PE.imp (Kr h k) λ σ H Q ⟨ρ,env,s,hs,he,ho⟩=>step hs he ho λ v s1 ρ1 H1 x _ u1 aT cz aN az=>by
  have aN:VR T ρ1 H1 v x:=aN
  cases v<;>try exact az.elim
  rename_i b _ _
  refine⟨b,aN.hJ,?_⟩
  cases b with
  | true=>exact az.aS aT dW
  | false=>exact⟨ρ1,env,s1,aT,cz,az⟩
theorem HX {a:Expr}{m:Ev}(h:PE X a (tE T XE m)):PE X (.UnaryOp .Not a pos) (tE T XE (cC qQ m)):=
 PE.imp (He h) λ σ H Q ⟨ρ,env,s,hs,he,ho⟩=>step hs he ho λ v s1 ρ1 H1 x _ u1 aT cz aN az=>by
  have aN:VR T ρ1 H1 v x:=aN
  cases v<;>try exact az.elim
  exact⟨_,aN.hJ,az.aS aT dW⟩
theorem aO.jD {ρ:List Addr}{H:Hp}{l:List AV}{xs:List V}{i:Int}{v:AV}(h:aO T ρ H l xs)(e:jD l i=some v):∃ x,L2.jD xs i=some x/\VR T ρ H v x:=by
 unfold L2.jD at *
 rw[<-h.length]
 cases e1:w6 l.length i with
 | none=>rw[e1]at e;cases e
 | some j=>rw[e1]at e;exact h.get e
def br:AV->AV->S->R AV
 | .tup xs,.int i,s=>need (jD xs i) λ v=>.ok v s
 | .sq xs,.int i,s=>need (jD xs i) λ v=>.ok v s
 | .ref k,.int i,s=>need (ak s k) λ xs=>need (jD xs i) λ v=>.ok v s
 | .str z,.int i,s=>if z.length<=sizeLine then need (jD z.cps.toList i) λ c=>.ok (.str ⟨#[c]⟩) s else .bad
 | _,_,_=>.bad
theorem RN (hK:X.K=T.K):JK X (qo T XE br):=by
 intro value slice pins s σ H x y v u Q I rx ry ⟨ρ,a,b,st,sr,va,vb,ho⟩ hs
 cases a<;>cases b<;>try exact ho.elim
 ·obtain⟨hl,ho⟩:=ho.a9
  obtain⟨c,e,ho⟩:=ho.ar
  exact IF value slice pins s σ H x y v u Q I rx ry ⟨_,_,c,va.str_inv,vb.int_inv,hl,e,ho.aS sr gQ⟩ hs
 ·obtain⟨c,e,ho⟩:=ho.ar
  obtain⟨p,vs,rfl,h1,k⟩:=va.dg
  obtain⟨z,e2,k2⟩:=k.jD e
  exact IE value slice pins s σ H _ y v u Q I rx ry ⟨p,vs,_,z,rfl,vb.int_inv,hK ▸ h1,e2,ho.aS sr k2⟩ hs
 ·obtain⟨xs,e0,ho⟩:=ho.ar
  obtain⟨c,e,ho⟩:=ho.ar
  obtain⟨p,vs,rfl,_,h1,k⟩:=sr.fw (aB e0) va
  obtain⟨z,e2,k2⟩:=k.jD e
  exact wZ value slice pins s σ H _ y v u Q I rx ry ⟨p,vs,_,z,rfl,vb.int_inv,fB.of h1,e2,ho.aS sr k2⟩ hs
 ·obtain⟨c,e,ho⟩:=ho.ar
  obtain⟨p,vs,rfl,h1,k⟩:=va.fW
  obtain⟨z,e2,k2⟩:=k.jD e
  exact wZ value slice pins s σ H _ y v u Q I rx ry ⟨p,vs,_,z,rfl,vb.int_inv,hK ▸ h1.xX,e2,ho.aS sr k2⟩ hs
abbrev Eo:=En->S->R (Option Int)
def rO:Rl (Option Int) (Option Int):=⟨λ _ _ _ a b=>a=b,λ _ h=>h⟩
abbrev tO (T:Tx)(XE:gJ)(m:Eo):TO:=tG T XE rO m
def oN:Eo:=λ _ s=>.ok none s
def oS (m:Ev):Eo:=λ env s=>(m env s).bind λ v s1=>match v with
 | .int i=>.ok (some i) s1
 | _=>.bad
theorem PO.imp {e:Option Expr}{t t':TO}(h:PO X e t)(k:∀ σ H Q,t' σ H Q->t σ H Q):PO X e t':=λ pins s σ H Q I hq=>h pins s σ H Q I (k σ H Q hq)
theorem zW:PO X none (tO T XE oN):=PO.imp Dq λ σ H Q ⟨ρ,env,s,hs,he,ho⟩=>ho ρ H none .refl hs rfl
theorem zV {e:Expr}{m:Ev}(h:PE X e (tE T XE m)):PO X (some e) (tO T XE (oS m)):=
 PO.imp (Dp h) λ σ H Q ⟨ρ,env,s,hs,he,ho⟩=>step hs he ho λ v s1 ρ1 H1 x _ u1 aT cz aN az=>by
  have aN:VR T ρ1 H1 v x:=aN
  cases v<;>try exact az.elim
  exact⟨_,aN.int_inv,az ρ1 H1 (some _) .refl aT rfl⟩
def gf {α:Type}(xs:List α)(lo hi:Option Int):List α:=(xs.drop (HT.dB xs.length 0 lo)).take (HT.dB xs.length xs.length hi - HT.dB xs.length 0 lo)
theorem aO.gf {ρ:List Addr}{H:Hp}{l:List AV}{xs:List V}(h:aO T ρ H l xs)(lo hi:Option Int):aO T ρ H (gf l lo hi) (qb xs lo hi):=by
 unfold Mm.gf qb
 rw[h.length]
 exact(h.drop _).take _
def yg (v:AV)(lo hi:Option Int)(s:S):R AV:=match v with
 | .tup xs=>.ok (.tup (gf xs lo hi)) s
 | .ref i=>need (ak s i) λ xs=>.ok (.ref s.length) (s++[.lst (gf xs lo hi)])
 | .sq xs=>.ok (.ref s.length) (s++[.lst (gf xs lo hi)])
 | _=>.bad
def RB (T:Tx)(XE:gJ):V->Option Int->Option Int->Hp->VK->Prop:=λ x lo hi H Q=>∃ ρ v s,SR T ρ s H/\VR T ρ H v x/\Out T XE (rV T) ρ H (yg v lo hi s) Q
theorem Ff {xs:List V}{lo hi:Option Int}(h:HT.dB xs.length 0 lo=0/\HT.dB xs.length xs.length hi=xs.length):qb xs lo hi=xs:=by
 unfold qb
 rw[h.1,h.2,Nat.sub_zero,List.drop_zero,List.take_length]
theorem RM (hK:X.K=T.K):M4 X (RB T XE):=by
 intro pins s σ H x v vl vu lo hi sl Q I rx hs pl pu ⟨ρ,a,st,sr,va,ho⟩
 cases a<;>try exact ho.elim
 ·obtain⟨p,vs,rfl,h1,k⟩:=va.dg
  refine C2 pins s σ H _ v vl vu lo hi sl Q I rx hs pl pu ⟨p,vs,rfl,hK ▸ h1,λ hw=>?_,λ _ q hq=>ho.tup sr hq (k.gf lo hi)⟩
  have:=k.gf lo hi
  rw[Ff hw]at this
  exact ho.aS sr (jL h1 this)
 ·obtain⟨xs,e0,ho⟩:=ho.ar
  obtain⟨p,vs,rfl,_,h1,k⟩:=sr.fw (aB e0) va
  exact wC pins s σ H _ v vl vu lo hi sl Q I rx hs pl pu ⟨p,vs,rfl,fB.of h1,λ q hq=>ho.alloc sr hq (OR.lst aw (aO.gr ((sr.eK hq).add hq).toGr (k.gf lo hi)))⟩
 ·obtain⟨p,vs,rfl,h1,k⟩:=va.fW
  exact wC pins s σ H _ v vl vu lo hi sl Q I rx hs pl pu ⟨p,vs,rfl,hK ▸ h1.xX,λ q hq=>ho.alloc sr hq (OR.lst aw (aO.gr ((sr.eK hq).add hq).toGr (k.gf lo hi)))⟩
def Es (m:Ev)(lo hi:Eo):Ev:=λ env s=>(m env s).bind λ v s1=>(lo env s1).bind λ l s2=>(hi env s2).bind λ h s3=>yg v l h s3
theorem K_ {e:Expr}{lo hi:Option Expr}{p2:Pos}{m:Ev}{ml mh:Eo}(hK:X.K=T.K)(he:PE X e (tE T XE m)) (hl:PO X lo (tO T XE ml)) (hh:PO X hi (tO T XE mh)):PE X (.Subscript e (.Slice lo hi none p2) pos) (tE T XE (Es m ml mh)):=
 PE.imp (Ac (RM (XE:=XE) hK) he hl hh) λ σ H Q ⟨ρ,env,s,hs,he,ho⟩=>
  step hs he ho λ v s1 ρ1 H1 x _ u1 aT cz aN az=>step aT cz az λ l s2 ρ2 H2 l' _ u2 fD lS e2 cZ=>step fD lS cZ λ h s3 ρ3 H3 h' _ u3 nH uN e3 jJ=>by
   cases (show l=l' from e2)
   cases (show h=h' from e3)
   exact⟨ρ3,v,s3,nH,VR.up (u2.trans u3) aN,jJ⟩
end
end Mm
namespace Mm
open PySem L2
abbrev Ms:=En->S->RS
def R.dO {α:Type}:R α->(α->S->RS)->RS
 | .ok a s,f=>f a s
 | .ex c s,_=>.ex c s
 | .bad,_=>.bad
@[simp] theorem i9 {α:Type}(a:α) (s:S) (f:α->S->RS):(R.ok a s).dO f=f a s:=rfl
def fm (T:Tx)(XE:gJ)(ρ:List Addr)(H:Hp):RS->Ends->Prop
 | .nx e s,D=>∀ ρ' H' σ',Up ρ H ρ' H'->SR T ρ' s H'->ER T ρ' H' e σ'->D.nx σ' H'
 | .rt v s,D=>∀ ρ' H' x,Up ρ H ρ' H'->SR T ρ' s H'->VR T ρ' H' v x->D.rt x H'
 | .bk e s,D=>∀ ρ' H' σ',Up ρ H ρ' H'->SR T ρ' s H'->ER T ρ' H' e σ'->D.bk σ' H'
 | .ct e s,D=>∀ ρ' H' σ',Up ρ H ρ' H'->SR T ρ' s H'->ER T ρ' H' e σ'->D.ct σ' H'
 | .ex c s,_=>∀ ρ' H',Up ρ H ρ' H'->SR T ρ' s H'->XE c ρ' s H'
 | .bad,_=>False
theorem fm.up {T:Tx}{XE:gJ}{ρ ρ':List Addr}{H H':Hp}{r:RS}{D:Ends}(u:Up ρ H ρ' H')(h:fm T XE ρ H r D):fm T XE ρ' H' r D:=by
 cases r with
 | nx e s=>exact λ ρ2 H2 x u2 sr vr=>h ρ2 H2 x (u.trans u2) sr vr
 | rt e s=>exact λ ρ2 H2 x u2 sr vr=>h ρ2 H2 x (u.trans u2) sr vr
 | bk e s=>exact λ ρ2 H2 x u2 sr vr=>h ρ2 H2 x (u.trans u2) sr vr
 | ct e s=>exact λ ρ2 H2 x u2 sr vr=>h ρ2 H2 x (u.trans u2) sr vr
 | ex c s=>exact λ ρ2 H2 u2 sr=>h ρ2 H2 (u.trans u2) sr
 | bad=>exact h
def tS (T:Tx)(XE:gJ)(m:Ms):TS:=λ D σ H=>∃ ρ env s,SR T ρ s H/\ER T ρ H env σ/\fm T XE ρ H (m env s) D
section
variable {T:Tx}{XE:gJ}{X:Cx}{pos:Pos}
theorem fu {α β:Type}{rl:Rl α β}{ρ:List Addr}{env:En}{s:S}{σ:St}{H:Hp}{m:En->S->R α}{k:α->S->RS}{D:Ends}{F:β->Hp->Prop}
  (hs:SR T ρ s H) (he:ER T ρ H env σ) (ho:fm T XE ρ H ((m env s).dO k) D)
  (hk:∀ v s1 ρ1 H1 x,m env s=.ok v s1->Up ρ H ρ1 H1->SR T ρ1 s1 H1->ER T ρ1 H1 env σ->rl.r H ρ1 H1 v x->fm T XE ρ1 H1 (k v s1) D->F x H1):tG T XE rl m σ H F:=by
 refine⟨ρ,env,s,hs,he,?_⟩
 cases e:m env s with
 | ok v s1=>
  rw[e]at ho
  exact λ ρ1 H1 x u sr vr=>hk v s1 ρ1 H1 x e u sr (he.up u) vr (fm.up u ho)
 | ex c s1=>rw[e]at ho;exact ho
 | bad=>rw[e]at ho;exact ho
def cA:Ms:=λ env s=>.nx env s
def aD (a b:Ms):Ms:=λ env s=>match a env s with
 | .nx e s1=>b e s1
 | r=>r
theorem DW:kI X [] (tS T XE cA):=kI.imp Dk λ D σ H ⟨ρ,env,s,hs,he,ho⟩=>ho ρ H σ .refl hs he
theorem AM {st:Stmt}{rest:List Stmt}{a b:Ms}(h1:PS X st (tS T XE a)) (h2:kI X rest (tS T XE b)):kI X (st :: rest) (tS T XE (aD a b)):=
 kI.imp (zP h1 h2) λ D σ H ⟨ρ,env,s,hs,he,ho⟩=>by
  refine⟨ρ,env,s,hs,he,?_⟩
  unfold aD at ho
  cases e:a env s with
  | nx e1 s1=>rw[e]at ho;exact λ ρ2 H2 x u sr er=>⟨ρ2,e1,s1,sr,er,fm.up u ho⟩
  | rt v s1=>rw[e]at ho;exact ho
  | bk v s1=>rw[e]at ho;exact ho
  | ct v s1=>rw[e]at ho;exact ho
  | ex v s1=>rw[e]at ho;exact ho
  | bad=>rw[e]at ho;exact ho
theorem DV {st:Stmt}{a:Ms}(h1:PS X st (tS T XE a)):kI X [st] (tS T XE a):=Dj h1
def bQ (m:Ev):Ms:=λ env s=>(m env s).dO λ _ s1=>.nx env s1
theorem DY {e:Expr}{m:Ev}(h:PE X e (tE T XE m)) (hs:swapsWith e none pos.line X.env=pure false:=by rfl):PS X (.Expr e pos) (tS T XE (bQ m)):=
 PS.imp (Dl h hs) λ D σ H ⟨ρ,env,s,hs,he,ho⟩=>fu hs he ho λ v s1 ρ1 H1 x _ u1 aT cz aN az=>az ρ1 H1 σ .refl aT cz
def bq (m:Ev):Ms:=λ env s=>(m env s).dO λ v s1=>.rt v s1
theorem HG {e:Expr}{m:Ev}(h:PE X e (tE T XE m)):PS X (.Return (some e) pos) (tS T XE (bq m)):=
 PS.imp (G3 h) λ D σ H ⟨ρ,env,s,hs,he,ho⟩=>fu hs he ho λ v s1 ρ1 H1 x _ u1 aT cz aN az=>az ρ1 H1 x .refl aT aN
def gF (c:Eb)(a b:Ms):Ms:=λ env s=>(c env s).dO λ k s1=>if k=true then a env s1 else b env s1
theorem KY {c:Expr}{a b:List Stmt}{sH:Eb}{ma mb:Ms}(hc:PT X c (jQ T XE sH)) (ha:kI X a (tS T XE ma)) (hb:kI X b (tS T XE mb)):PS X (.If c a b pos) (tS T XE (gF sH ma mb)):=
 PS.imp (Kn hc ha hb) λ D σ H ⟨ρ,env,s,hs,he,ho⟩=>fu hs he ho λ v s1 ρ1 H1 x _ u1 aT cz aN az=>by
  cases (show v=x from aN)
  cases v with
  | true=>exact⟨ρ1,env,s1,aT,cz,az⟩
  | false=>exact⟨ρ1,env,s1,aT,cz,az⟩
def bY (i:Nat)(m:Ev):Ms:=λ env s=>(m env s).dO λ v s1=>.nx (env.set i (some v)) s1
theorem Ca {i:Nat}{m:Ev}{D:Ends}{σ:St}{H:Hp}(h:tS T XE (bY i m) D σ H):CQ (tE T XE m) (xk i) D σ H:=by
 obtain⟨ρ,env,s,hs,he,ho⟩:=h
 exact fu hs he ho λ v s1 ρ1 H1 x _ u1 aT cz aN az=>az ρ1 H1 _ .refl aT (cz.set aN)
theorem AN {i:Nat}{x:Str}{e:Expr}{m:Ev}{pos':Pos}(hN:X.N.Nodup)(he:PE X e (tE T XE m)) (hi:X.N[i]? = some x:=by rfl)(hx:Loc X.env.scope x:=by first|exact Or.inl rfl|exact Or.inr rfl)(hs:swapsWith e (some (.Name x pos')) pos.line X.env=pure false:=by rfl) (hf:X.fn x=true∨X.env.scope.names.lookup x=some .local:=by first|exact .inl rfl|exact .inr rfl|assumption) :
  PS X (.Assign [.Name x pos'] e pos) (tS T XE (bY i m)):=PS.imp (G2 hN hi hx he hs hf) λ D σ H h=>Ca h
abbrev Mt:=AV->En->S->RS
abbrev xM:=List AV->En->S->RS
def E8 (Q:St->Hp->Prop):Ends:={ nx:=Q,rt:=λ _ _=>False }
def tT (T:Tx)(XE:gJ)(m:Mt):TG:=λ x σ H Q=>∃ ρ env s v,SR T ρ s H/\ER T ρ H env σ/\VR T ρ H v x/\fm T XE ρ H (m v env s) (E8 Q)
def Nb (T:Tx)(XE:gJ)(m:xM):Fw:=λ xs σ H Q=>∃ ρ env s vs,SR T ρ s H/\ER T ρ H env σ/\aO T ρ H vs xs/\fm T XE ρ H (m vs env s) (E8 Q)
def gN (i:Nat):Mt:=λ v env s=>.nx (env.set i (some v)) s
def g7:xM:=λ vs env s=>match vs with
 | []=>.nx env s
 | _=>.bad
def aU (a:Mt)(r:xM):xM:=λ vs env s=>match vs with
 | v :: w=>match a v env s with
  | .nx e s1=>r w e s1
  | q=>q
 | _=>.bad
def gT (n:Nat)(r:xM):Mt:=λ v env s=>match v with
 | .tup vs=>if vs.length=n then r vs env s else .bad
 | _=>.bad
theorem Ee {i:Nat}{x:Str}(hN:X.N.Nodup)(hi:X.N[i]? = some x:=by rfl)(hx:Loc X.env.scope x:=by first|exact Or.inl rfl|exact Or.inr rfl)(hf:X.fn x=true∨X.env.scope.names.lookup x=some .local:=by first|exact .inl rfl|exact .inr rfl|assumption):PG X (.Name x pos) (tT T XE (gN i)):=
 PG.imp (Dz hN hi hx hf) λ x σ H Q ⟨ρ,env,s,v,hs,he,vr,ho⟩=>ho ρ H _ .refl hs (he.set vr)
theorem Ea:xJ X [] (Nb T XE g7):=xJ.imp Dy λ xs σ H Q ⟨ρ,env,s,vs,hs,he,vr,ho⟩=>by
 cases vs with
 | nil=>exact⟨vr.nil_inv,ho ρ H _ .refl hs he⟩
 | cons a r=>exact ho.elim
theorem A1 {e:Expr}{es:List Expr}{a:Mt}{r:xM}(h1:PG X e (tT T XE a)) (h2:xJ X es (Nb T XE r)) (hs:(assignEach (e :: es) X.env).map (·.2)=assign e X.env :: (assignEach es X.env).map (·.2):=by rfl):xJ X (e :: es) (Nb T XE (aU a r)):=
 xJ.imp (z9 h1 h2 hs) λ xs σ H Q ⟨ρ,env,s,vs,hs,he,vr,ho⟩=>by
  cases vs with
  | nil=>exact ho.elim
  | cons v w=>
   obtain⟨x,ys,rfl,k1,k2⟩:=vr.cons_inv
   refine⟨x,ys,rfl,ρ,env,s,v,hs,he,k1,?_⟩
   unfold aU at ho
   cases e:a v env s with
   | nx e1 s1=>simp only[e]at ho;exact λ ρ2 H2 x u sr er=>⟨ρ2,e1,s1,w,sr,er,k2.up u,fm.up u ho⟩
   | rt v s1=>simp only[e]at ho;exact ho
   | bk v s1=>simp only[e]at ho;exact λ ρ2 H2 x u sr er=>ho ρ2 H2 x u sr er
   | ct v s1=>simp only[e]at ho;exact λ ρ2 H2 x u sr er=>ho ρ2 H2 x u sr er
   | ex v s1=>simp only[e]at ho;exact ho
   | bad=>simp only[e]at ho;exact ho
theorem HQ {es:List Expr}{k:Nat}{r:xM}{n:Nat}(hK:X.K=T.K)(hc:X.calm=true)(h:xJ X es (Nb T XE r)) (hn:(assignEach es X.env).length=n:=by rfl) (vW:(assignEach es X.env).findIdx? (·.1)=none:=by rfl):PG X (.Tuple es k pos) (tT T XE (gT n r)):=
 PG.imp (G' hc h hn vW) λ x σ H Q ⟨ρ,env,s,v,hs,he,vr,ho⟩=>by
  obtain⟨vs,rfl⟩:∃ vs,v=.tup vs:=by
   cases v with
   | tup vs=>exact⟨vs,rfl⟩
   | _=>exact ho.elim
  obtain⟨a,ws,rfl,h1,k1⟩:=vr.dg
  have ho:fm T XE ρ H (if vs.length=n then r vs env s else .bad) (E8 Q):=ho
  by_cases hl:vs.length=n
  ·rw[if_pos hl]at ho
   exact⟨a,ws,rfl,hK ▸ h1,by rw[<-k1.length];exact hl,ρ,env,s,vs,hs,he,k1,ho⟩
  ·rw[if_neg hl]at ho;exact ho.elim
def vx (m:Ev)(g:Mt):Ms:=λ env s=>(m env s).dO λ v s1=>g v env s1
def kJ (g:Mt):Prop:=∀ v env s,(∃ e s1,g v env s=.nx e s1)∨(∃ c s1,g v env s=.ex c s1)∨g v env s=.bad
def oM (g:xM):Prop:=∀ v env s,(∃ e s1,g v env s=.nx e s1)∨(∃ c s1,g v env s=.ex c s1)∨g v env s=.bad
theorem DO {i:Nat}:kJ (gN i):=λ v env s=>.inl ⟨_,_,rfl⟩
theorem Hy:oM g7:=λ v env s=>by
 cases v with
 | nil=>exact .inl ⟨_,_,rfl⟩
 | cons a r=>exact .inr (.inr rfl)
theorem DP {a:Mt}{r:xM}(h:kJ a)(k:oM r):oM (aU a r):=λ v env s=>by
 cases v with
 | nil=>exact .inr (.inr rfl)
 | cons x w=>
  rcases h x env s with⟨e,s1,q⟩|⟨e,s1,q⟩|q
  ·have:aU a r (x :: w) env s=r w e s1:=by unfold aU;simp only[q]
   rw[this];exact k w e s1
  ·have:aU a r (x :: w) env s=.ex e s1:=by unfold aU;simp only[q]
   exact .inr (.inl ⟨_,_,this⟩)
  ·have:aU a r (x :: w) env s=.bad:=by unfold aU;simp only[q]
   exact .inr (.inr this)
theorem Hx {n:Nat}{r:xM}(k:oM r):kJ (gT n r):=λ v env s=>by
 cases v<;>try exact .inr (.inr rfl)
 rename_i vs
 by_cases hl:vs.length=n
 ·have:gT n r (.tup vs) env s=r vs env s:=if_pos hl
  rw[this];exact k vs env s
 ·have:gT n r (.tup vs) env s=.bad:=if_neg hl
  exact .inr (.inr this)
theorem kJ.out {g:Mt}(k:kJ g){ρ:List Addr}{H:Hp}{v:AV}{env:En}{s:S}{D:Ends}(h:fm T XE ρ H (g v env s) D):fm T XE ρ H (g v env s) (E8 D.nx):=by
 rcases k v env s with⟨e,s1,q⟩|⟨e,s1,q⟩|q<;>rw[q]at h ⊢<;>exact h
theorem HK {tg e:Expr}{m:Ev}{g:Mt}(he:PE X e (tE T XE m)) (hg:PG X tg (tT T XE g)) (Sk:kJ g)(hs:swapsWithSole [tg] e pos.line X.env=pure false:=by rfl)(hw:swappedStores [tg] e X.env=pure none:=by rfl)
  (h1:(assignEach [tg] X.env).map (·.2)=[assign tg X.env]:=by rfl):PS X (.Assign [tg] e pos) (tS T XE (vx m g)):=
 PS.imp (G7 he hg hs hw h1) λ D σ H ⟨ρ,env,s,hs,he,ho⟩=>fu hs he ho λ v s1 ρ1 H1 x _ u1 aT cz aN az=>⟨ρ1,env,s1,v,aT,cz,aN,Sk.out az⟩
def n9 (i j:Nat)(r:eG):Ms:=λ env s=>(r env s).dO λ vs s1=>match vs with
 | [v,w]=>.nx ((env.set i (some v)).set j (some w)) s1
 | _=>.bad
theorem HH {i j:Nat}{x y:Str}{a b:Expr}{r:eG}{px py pt:Pos}{kt k2:Nat}{G0:Pos}(hc:X.calm=true)(hN:X.N.Nodup)(ha:PA X [a,b] (tP T XE r)) (hi:X.N[i]? = some x:=by rfl)(hj:X.N[j]? = some y:=by rfl)(qf:i≠j:=by decide)
  (hx:X.env.scope.names.lookup x=some .local:=by rfl) (hy:X.env.scope.names.lookup y=some .local:=by rfl)
  (hw:swappedStores [.Tuple [.Name x px,.Name y py] kt pt] (.Tuple [a,b] k2 G0) X.env=pure (some [x,y]):=by rfl)
  (hs:swapsWithSole [.Tuple [.Name x px,.Name y py] kt pt] (.Tuple [a,b] k2 G0) pos.line X.env=pure false:=by rfl) :
  PS X (.Assign [.Tuple [.Name x px,.Name y py] kt pt] (.Tuple [a,b] k2 G0) pos) (tS T XE (n9 i j r)):=
 PS.imp (G4 hc hN hi hj qf hx hy ha hw hs) λ D σ H ⟨ρ,env,s,hs,he,ho⟩=>fu hs he ho λ v s1 ρ1 H1 x _ u1 aT cz aN az=>by
  have aN:aO T ρ1 H1 v x:=aN
  match v,aN,az with
  | [v,w],aN,az=>
   obtain⟨x1,ys,rfl,k1,k2⟩:=aN.cons_inv
   obtain⟨x2,ys,rfl,k4,k3⟩:=k2.cons_inv
   cases k3.nil_inv
   exact⟨x1,x2,rfl,az ρ1 H1 _ .refl aT ((cz.set k1).set k4)⟩
  | [],_,az=>exact az.elim
  | [_],_,az=>exact az.elim
  | _ :: _ :: _ :: _,_,az=>exact az.elim
def Cf (c:Eb)(b:Ms):Nat->En->S->RS
 | 0,_,_=>.bad
 | n+1,env,s=>(c env s).dO λ k s1=>if k=true then (match b env s1 with
   | .nx e s2=>Cf c b n e s2
   | .ct e s2=>Cf c b n e s2
   | .bk e s2=>.nx e s2
   | r=>r) else .nx env s1
def C5 (f:En->S->Nat)(c:Eb)(b:Ms):Ms:=λ env s=>Cf c b (f env s) env s
theorem HE {c:Expr}{body:List Stmt}{sH:Eb}{mb:Ms}(f:En->S->Nat)(hp:PassesOwn (model X.prog X.w) X.A X.env X.xe) (hc:PT X c (jQ T XE sH)) (hb:kI X body (tS T XE mb)):PS X (.While c body [] pos) (tS T XE (C5 f sH mb)):=
 PS.imp (zQ hp hc hb) λ D σ H ⟨ρ,env,s,hs,he,ho⟩=>by
  refine⟨λ n σ H=>∃ ρ env s,SR T ρ s H/\ER T ρ H env σ/\fm T XE ρ H (Cf sH mb n env s) D,⟨f env s,ρ,env,s,hs,he,ho⟩,?_⟩
  rintro n σ H ⟨ρ,env,s,hs,he,ho⟩
  cases n with
  | zero=>exact ho.elim
  | succ n=>
   unfold Cf at ho
   refine fu hs he ho λ v s1 ρ1 H1 x _ u1 aT cz aN az=>?_
   cases (show v=x from aN)
   cases v with
   | false=>exact az ρ1 H1 σ .refl aT cz
   | true=>
    refine⟨λ σ' H'=>∃ ρ env s,SR T ρ s H'/\ER T ρ H' env σ'/\fm T XE ρ H' (Cf sH mb n env s) D,λ σ' H' h=>⟨n,Nat.lt_succ_self n,h⟩,ρ1,env,s1,aT,cz,?_⟩
    simp only[if_pos]at az
    cases e:mb env s1 with
    | nx e2 s2=>simp only[e]at az;exact λ ρ2 H2 x u sr er=>⟨ρ2,e2,s2,sr,er,fm.up u az⟩
    | ct e2 s2=>simp only[e]at az;exact λ ρ2 H2 x u sr er=>⟨ρ2,e2,s2,sr,er,fm.up u az⟩
    | bk e2 s2=>simp only[e]at az;exact λ ρ2 H2 x u sr er=>az ρ2 H2 x u sr er
    | rt v s2=>simp only[e]at az;exact az
    | ex v s2=>simp only[e]at az;exact az
    | bad=>simp only[e]at az;exact az
end
end Mm
namespace L2
open PySem PySem.Spec PyProof.Rows
theorem G_ {X:Cx}{tg l:Expr}{tl:TE}(hl:PE X l tl):PI X tg l (λ σ H R=>tl σ H λ x H1=>∃ a,x=.ref a/\(((∃ xs,fB X.K H1 a xs)/\R (JM X.K a) H1)∨((∃ xs,hW X.K H1 a xs)/\R (M5 X.K a) H1))):=by
 intro pins s σ H R I h
 refine bI (hl pins s σ H _ I h) λ v s1 ⟨x,H1,I1,r1,q1⟩=>?_
 obtain⟨a,e,q⟩:=q1
 subst e
 cases r1
 rcases q with⟨⟨xs,hq⟩,q⟩|⟨⟨xs,hq⟩,q⟩
 ·obtain⟨its,rv,p,hz⟩:=I1.list hq
  refine wpAny_pyIter_list p.isList ?_
  refine⟨s1.heap.objs.size,[s1.heap.objs.size],_,_,H1,rfl,I1.kept (t':=s1.toks) λ b o e=>Heap.get?_push_of_some _ e,qJ a _,⟨_,Heap.get?_push_size _ rfl,rfl,rfl⟩,λ b hb=>?_,q⟩
  have e:b=s1.heap.objs.size:=by simpa using hb
  subst e
  exact I1.v7 (Nat.le_refl _) (I1.aX.fresh (Nat.le_refl _))
 ·obtain⟨its,rv,p,hz⟩:=I1.tuple hq
  refine wpAny_pyIter_tuple (show s1.heap.IsTuple a its.toArray from p) ?_
  refine⟨s1.heap.objs.size,[s1.heap.objs.size],_,_,H1,rfl,I1.kept (t':=s1.toks) λ b o e=>Heap.get?_push_of_some _ e,vm a _,⟨_,Heap.get?_push_size _ rfl,rfl,rfl⟩,λ b hb=>?_,q⟩
  have e:b=s1.heap.objs.size:=by simpa using hb
  subst e
  exact I1.v7 (Nat.le_refl _) (I1.aX.fresh (Nat.le_refl _))
end L2
namespace Mm
open PySem L2
theorem Up.mod {ρ ρ':List Addr}{H H':Hp}{D:Addr}{o:HO}(u:Up ρ H ρ' H')(h:H D=none)(n:D∉ρ'):Up ρ H ρ' (upd H' D o):=
 ⟨⟨u.pre,λ b xs e=>by rw[ah (aJ e h)];exact u.jE b xs e,λ b p v e=>by rw[ah (aJ e h)];exact u.iJ b p v e⟩,λ b p e k=>⟨by rw[ah (aJ e h)];exact(u.fr b p e k).1,(u.fr b p e k).2⟩,λ b e=>by
  by_cases hb:b=D
  ·rw[hb];exact h
  ·rw[ah hb]at e;exact u.live b e⟩
theorem PN {ρ:List Addr}{H:Hp}{D:Addr}{xs:List V}{o:HO}(h:H D=some (.lst xs)):Gr ρ H ρ (upd H D o):=
 ⟨List.prefix_rfl,λ b ys e=>by rw[ah (pI e h (by intro z;cases z))];exact e,λ b p v e=>by rw[ah (pI e h (by intro z;cases z))];exact e⟩
theorem ER.gr {T:Tx}{ρ ρ':List Addr}{H H':Hp}{env:En}{σ:St}(h:ER T ρ H env σ)(u:Gr ρ H ρ' H'):ER T ρ' H' env σ:=
 ⟨h.len,λ i v e=>let ⟨x,e1,q⟩:=h.get i v e;⟨x,e1,q.gr u⟩⟩
abbrev Gd:=List (Nat × List AV)
def sR (gs:Gd)(s:S):Prop:=∀ p∈gs,ak s p.1=some p.2
theorem xj (i:Nat)(xs:List AV)(s:S):sR [(i,xs)] s ↔ ak s i=some xs:=by simp[sR]
structure Walks (T:Tx)(ρ:List Addr)(H:Hp)(xs:List AV)(gs:Gd)(J:It):Prop where
 turn:∀ ρ' s' H',Up ρ H ρ' H'->SR T ρ' s' H'->sR gs s'->(∀ (j:Nat) (v:AV),xs[j]? = some v->J.go j H'/\∀ x H'',J.CD j H' x H''->Up ρ' H' ρ' H''/\SR T ρ' s' H''/\VR T ρ' H'' v x)/\J.stop xs.length H'
abbrev Src:=En->S->R (List AV × Gd)
def rW (T:Tx):Rl (List AV × Gd) It:=⟨λ _ ρ H p J=>Walks T ρ H p.1 p.2 J,λ _ h=>h⟩
abbrev tW (T:Tx)(XE:gJ)(m:Src):TI:=tG T XE (rW T) m
section
variable {T:Tx}{XE:gJ}{X:Cx}{pos:Pos}
theorem mT {K:PySem.W.Frag}{a:Addr}{H':Hp}{vs:List V}(h:H' a=some (.lst vs)∨Ge K H' a vs) {ρ':List Addr}{s':S}{xs:List AV}(sr:SR T ρ' s' H')(k:aO T ρ' H' xs vs) :
  (∀ (j:Nat) (v:AV),xs[j]? = some v->(JM K a).go j H'/\∀ x H'',(JM K a).CD j H' x H''->Up ρ' H' ρ' H''/\SR T ρ' s' H''/\VR T ρ' H'' v x)/\(JM K a).stop xs.length H':=by
 have hq:fB K H' a vs:=by rcases h with h|h;exact fB.of h;exact h.xX
 refine⟨λ j v e=>?_,⟨vs,hq,by rw[k.length];exact Nat.le_refl _⟩⟩
 obtain⟨x,ex,kx⟩:=k.get e
 refine⟨⟨vs,x,hq,ex⟩,λ y H'' ⟨e1,e2⟩=>?_⟩
 subst e1
 have:=e2 vs hq
 rw[ex]at this
 cases this
 exact⟨.refl,sr,kx⟩
theorem zh {K:PySem.W.Frag}{a:Addr}{H':Hp}{vs:List V}(hq:hW K H' a vs){ρ':List Addr}{s':S}{xs:List AV}(sr:SR T ρ' s' H')(k:aO T ρ' H' xs vs) :
  (∀ (j:Nat) (v:AV),xs[j]? = some v->(M5 K a).go j H'/\∀ x H'',(M5 K a).CD j H' x H''->Up ρ' H' ρ' H''/\SR T ρ' s' H''/\VR T ρ' H'' v x)/\(M5 K a).stop xs.length H':=by
 refine⟨λ j v e=>?_,⟨vs,hq,by rw[k.length];exact Nat.le_refl _⟩⟩
 obtain⟨x,ex,kx⟩:=k.get e
 refine⟨⟨vs,x,hq,ex⟩,λ y H'' ⟨e1,e2⟩=>?_⟩
 subst e1
 have:=e2 vs hq
 rw[ex]at this
 cases this
 exact⟨.refl,sr,kx⟩
def uc (r:eG):Src:=λ env s=>(r env s).bind λ xs s1=>.ok (xs,[]) s1
theorem OQ {tg e:Expr}{r:eG}(hK:X.K=T.K)(h:PE X e (tL T XE r)):PI X tg e (tW T XE (uc r)):=
 PI.imp (Dw h) λ σ H R ⟨ρ,env,s,hs,he,ho⟩=>by
  refine⟨ρ,env,s,hs,he,?_⟩
  unfold uc at ho
  cases e:r env s with
  | bad=>rw[e]at ho;exact ho
  | ex c s1=>rw[e]at ho;exact ho
  | ok xs s1=>
   rw[e]at ho
   intro ρ1 H1 x u sr ⟨a,vs,e1,h0,h1,h2,k⟩
   subst e1
   refine⟨a,rfl,⟨vs,fB.of h2⟩,ho ρ1 H1 _ u sr ⟨λ ρ' s' H' u' jd _=>?_⟩⟩
   rw[hK]
   exact mT (.inl (u'.fr a _ h2 h1).1) jd (k.up u')
def fO (m:Ev):Src:=λ env s=>(m env s).bind λ v s1=>match v with
 | .tup xs=>.ok (xs,[]) s1
 | .sq xs=>.ok (xs,[]) s1
 | .ref i=>need (ak s1 i) λ xs=>.ok (xs,[(i,xs)]) s1
 | _=>.bad
theorem OP {tg e:Expr}{m:Ev}(hK:X.K=T.K)(h:PE X e (tE T XE m)):PI X tg e (tW T XE (fO m)):=
 PI.imp (G_ h) λ σ H R ⟨ρ,env,s,hs,he,ho⟩=>step hs he ho λ v s1 ρ1 H1 x _ u1 aT cz aN az=>by
  have aN:VR T ρ1 H1 v x:=aN
  cases v with
  | tup xs=>
   obtain⟨a,vs,rfl,h1,k⟩:=aN.dg
   refine⟨a,rfl,.inr ⟨⟨vs,hK ▸ h1⟩,az ρ1 H1 _ .refl aT ⟨λ ρ' s' H' u' jd _=>?_⟩⟩⟩
   rw[hK]
   exact zh (u'.Kb h1) jd (k.up u')
  | sq xs=>
   obtain⟨a,vs,rfl,h1,k⟩:=aN.fW
   refine⟨a,rfl,.inl ⟨⟨vs,hK ▸ h1.xX⟩,az ρ1 H1 _ .refl aT ⟨λ ρ' s' H' u' jd _=>?_⟩⟩⟩
   rw[hK]
   exact mT (.inr (u'.Od h1)) jd (k.up u')
  | ref i=>
   obtain⟨xs,e0,az⟩:=az.ar
   obtain⟨a,vs,rfl,ea,h1,k⟩:=aT.fw (aB e0) aN
   refine⟨a,rfl,.inl ⟨⟨vs,fB.of h1⟩,az ρ1 H1 _ .refl aT ⟨λ ρ' s' H' u' jd g=>?_⟩⟩⟩
   have e2:=(xj i xs s').mp g
   obtain⟨b,ws,eb,_,h2,k2⟩:=jd.fw (aB e2) (VR.up u' aN)
   cases eb
   exact mT (.inl h2) jd k2
  | aC=>exact az.elim
  | bl b=>exact az.elim
  | int b=>exact az.elim
  | str b=>exact az.elim
def kS (lo:Int)(n:Nat):List AV:=(List.range n).map λ(i:Nat)=>AV.int (lo+i)
theorem zi {lo:Int}{n:Nat}{H':Hp}{ρ':List Addr}{s':S}(sr:SR T ρ' s' H') :
  (∀ (j:Nat) (v:AV),(kS lo n)[j]? = some v->(JL lo n).go j H'/\∀ x H'',(JL lo n).CD j H' x H''->Up ρ' H' ρ' H''/\SR T ρ' s' H''/\VR T ρ' H'' v x)/\(JL lo n).stop (kS lo n).length H':=by
 have hl:(kS lo n).length=n:=by simp[kS]
 refine⟨λ j v e=>?_,by rw[hl];exact Nat.le_refl _⟩
 have hj:j < n:=by have:=(List.getElem?_eq_some_iff.mp e).1;rw[hl]at this;exact this
 refine⟨hj,λ y H'' ⟨e1,e2⟩=>?_⟩
 subst e1 e2
 have:(kS lo n)[j]? = some (.int (lo+j)):=by simp[kS,hj]
 rw[this]at e
 cases e
 exact⟨.refl,sr,eI⟩
def rX (r:eG):Src:=λ env s=>(r env s).bind λ vs s1=>match vs with
 | [.int j]=>if -(2 ^ 62)<=j/\j < 2 ^ 62 then .ok (kS 0 j.toNat,[]) s1 else .bad
 | [.int i,.int j]=>if -(2 ^ 62)<=i/\i < 2 ^ 62/\-(2 ^ 62)<=j/\j < 2 ^ 62 then .ok (kS i (j - i).toNat,[]) s1 else .bad
 | _=>.bad
theorem K0 {tg a:Expr}{p:Pos}{m:Ev}(hm:X.mg "range"=none)(ha:PE X a (tE T XE m)) (hg:Gl X "range":=by rfl)(hs:starEach [a] X.env=[(false,eval a X.env)]:=by rfl):PI X tg (.Call (.Name "range" p) [a] [] pos) (tW T XE (rX (aa m ae))):=
 PI.imp (yb hg hm (uj ha wK hs) hs) λ σ H R ⟨ρ,env,s,hs,he,ho⟩=>step hs he ho λ v s1 ρ1 H1 x e u1 aT cz aN az=>by
  have aN:aO T ρ1 H1 v x:=aN
  obtain⟨w,rfl⟩:∃ w,v=[w]:=by
   unfold aa ae at e
   cases e1:m env s with
   | ok w s2=>rw[e1]at e;cases e;exact⟨w,rfl⟩
   | ex c s2=>rw[e1]at e;cases e
   | bad=>rw[e1]at e;cases e
  obtain⟨y,ys,rfl,k1,k2⟩:=aN.cons_inv
  cases k2.nil_inv
  cases w with
  | int j=>
   obtain⟨⟨h1,h2⟩,az⟩:=az.a9
   cases k1.int_inv
   exact⟨j,rfl,h1,h2,az ρ1 H1 _ .refl aT ⟨λ ρ' s' H' u' jd _=>zi jd⟩⟩
  | _=>exact az.elim
noncomputable def forL (eS:Mt)(body:Ms)(gs:Gd):List AV->En->S->RS
 | [],env,s=>open Classical in if sR gs s then .nx env s else .bad
 | v :: r,env,s=>open Classical in if sR gs s then (match eS v env s with
   | .nx e1 s1=>(match body e1 s1 with
    | .nx e2 s2=>forL eS body gs r e2 s2
    | .ct e2 s2=>forL eS body gs r e2 s2
    | .bk e2 s2=>.nx e2 s2
    | q=>q)
   | .ex c s1=>.ex c s1
   | _=>.bad) else .bad
noncomputable def ud (src:Src)(eS:Mt)(body:Ms):Ms:=λ env s=>(src env s).dO λ p s1=>forL eS body p.2 p.1 env s1
theorem fm.a9 {ρ:List Addr}{H:Hp}{c:Prop}{_:Decidable c}{r:RS}{D:Ends}(h:fm T XE ρ H (if c then r else .bad) D):c/\fm T XE ρ H r D:=by
 by_cases hc:c
 ·rw[if_pos hc]at h;exact⟨hc,h⟩
 ·rw[if_neg hc]at h;exact h.elim
theorem HI {tg iter:Expr}{body:List Stmt}{src:Src}{eS:Mt}{mb:Ms}(hp:PassesOwn (model X.prog X.w) X.A X.env X.xe) (hc:X.calm=true)(hi:PI X tg iter (tW T XE src)) (hg:PG X tg (tT T XE eS)) (hb:kI X body (tS T XE mb))
  (hs:∀ x,foldedSetIterable iter X.env x=pure x:=by intro _;rfl):PS X (.For tg iter body [] pos) (tS T XE (ud src eS mb)):=
 PS.imp (G5 hp hc hi hg hb hs) λ D σ H ⟨ρ,env,s,hs,he,ho⟩=>fu hs he ho λ p s1 ρ1 H1 J _ u1 aT cz wk az=>by
  obtain⟨xs,gs⟩:=p
  have wk:Walks T ρ1 H1 xs gs J:=wk
  refine⟨λ i m σ' H'=>m=xs.length - i/\i<=xs.length/\∃ ρ' mM s',Up ρ1 H1 ρ' H'/\SR T ρ' s' H'/\ER T ρ' H' mM σ'/\fm T XE ρ' H' (forL eS mb gs (xs.drop i) mM s') D,⟨_,rfl,Nat.zero_le _,ρ1,env,s1,.refl,aT,cz,az⟩,?_⟩
  rintro i m σ' H' ⟨rfl,hi,ρ',mM,s',u',jd,NB,cO⟩
  by_cases xb:i < xs.length
  ·rw[List.drop_eq_getElem_cons xb]at cO
   unfold forL at cO
   obtain⟨IU,cO⟩:=cO.a9
   obtain⟨w1,w2⟩:=(wk.turn ρ' s' H' u' jd IU).1 i xs[i] (List.getElem?_eq_getElem xb)
   refine .inr ⟨w1,λ σ2 H2=>∃ ρ2 Mc s2,Up ρ1 H1 ρ2 H2/\SR T ρ2 s2 H2/\ER T ρ2 H2 Mc σ2/\fm T XE ρ2 H2 (forL eS mb gs (xs.drop (i+1)) Mc s2) D,λ σ2 H2 h2=>⟨xs.length - (i+1),by omega,rfl,xb,h2⟩,λ x H'' hy=>?_⟩
   obtain⟨y1,y2,y3⟩:=w2 x H'' hy
   refine⟨ρ',mM,s',xs[i],y2,NB.up y1,y3,?_⟩
   have cO:=fm.up y1 cO
   cases et:eS xs[i] mM s' with
   | nx e1 s1=>
    simp only[et]at cO
    refine λ ρ2 H2 σ2 u2 fD lS=>⟨ρ2,e1,s1,fD,lS,?_⟩
    have cO:=fm.up u2 cO
    have Qk:Up ρ1 H1 ρ2 H2:=(u'.trans y1).trans u2
    cases eb:mb e1 s1 with
    | nx e2 s2=>simp only[eb]at cO;exact λ ρ3 H3 σ3 u3 nH uN=>⟨ρ3,e2,s2,Qk.trans u3,nH,uN,fm.up u3 cO⟩
    | ct e2 s2=>simp only[eb]at cO;exact λ ρ3 H3 σ3 u3 nH uN=>⟨ρ3,e2,s2,Qk.trans u3,nH,uN,fm.up u3 cO⟩
    | bk e2 s2=>simp only[eb]at cO;exact λ ρ3 H3 σ3 u3 nH uN=>cO ρ3 H3 σ3 u3 nH uN
    | rt v s2=>simp only[eb]at cO;exact cO
    | ex v s2=>simp only[eb]at cO;exact cO
    | bad=>simp only[eb]at cO;exact cO
   | ex c s1=>simp only[et]at cO;exact cO
   | rt v s2=>simp only[et]at cO;exact cO.elim
   | bk v s2=>simp only[et]at cO;exact cO.elim
   | ct v s2=>simp only[et]at cO;exact cO.elim
   | bad=>simp only[et]at cO;exact cO.elim
  ·have e:i=xs.length:=by omega
   subst e
   rw[List.drop_length]at cO
   unfold forL at cO
   obtain⟨IU,cO⟩:=cO.a9
   exact .inl ⟨(wk.turn ρ' s' H' u' jd IU).2,cO ρ' H' σ' .refl jd NB⟩
abbrev Lc:=List (Str × Option Nat)
def vv (l:Lc)(env:En):En:=l.map λ p=>p.2.bind λ j=>(env[j]?).join
theorem ER.src {ρ:List Addr}{H:Hp}{env:En}{σ:St}(h:ER T ρ H env σ)(l:Lc):ER T ρ H (vv l env) (xV l σ):=by
 refine⟨by simp[vv,xV],λ i v e=>?_⟩
 unfold vv at e
 unfold xV
 rw[List.getElem?_map]at e ⊢
 cases el:l[i]? with
 | none=>rw[el]at e;cases e
 | some p=>
  rw[el]at e
  obtain⟨n,o⟩:=p
  cases o with
  | none=>cases e
  | some j=>
   have e:some ((env[j]?).join)=some (some v):=e
   have e':env[j]? = some (some v):=by
    cases ej:env[j]? with
    | none=>rw[ej]at e;cases e
    | some q=>rw[ej]at e;cases e;rfl
   obtain⟨x,ex,k⟩:=h.get j v e'
   exact⟨x,by show some ((σ[j]?).join)=_;rw[ex];rfl,k⟩
def yQ:gJ:=λ _ _ _ _=>False
def R.calm {α:Type}:R α->R α
 | .ex _ _=>.bad
 | r=>r
@[simp] theorem xE {α:Type}(a:α) (s:S):(R.ok a s).calm=.ok a s:=rfl
@[simp] theorem uY {α:Type}:(R.bad:R α).calm=.bad:=rfl
def jt:Eb:=λ _ s=>.ok true s
noncomputable def bX (eS:Mt)(test:Eb)(elt:Ev)(gs:Gd):List AV->En->S->List AV->R (List AV)
 | [],env,s,acc=>open Classical in if sR gs s then .ok acc s else .bad
 | v :: r,env,s,acc=>open Classical in if sR gs s then (match eS v env s with
   | .nx e1 s1=>(test e1 s1).calm.bind λ b s2=>if b=true then (elt e1 s2).calm.bind λ x s3=>bX eS test elt gs r e1 s3 (acc++[x]) else bX eS test elt gs r e1 s2 acc
   | _=>.bad) else .bad
noncomputable def cg (l:Lc)(src:Src)(eS:Mt)(test:Eb)(elt:Ev):eG:=λ env s=>(src env s).bind λ p s1=>if p.1.length<=sizeLine then bX eS test elt p.2 p.1 (vv l env) s1 [] else .bad
theorem zY:Fx X [] (jQ T XE jt):=λ pins s σ H Q I ⟨ρ,env,st,hs,he,ho⟩=>Dv pins s σ H Q I (uG ho hs)
theorem zX {c:Expr}{m:Eb}(h:PT X c (jQ T XE m)):Fx X [c] (jQ T XE m):=Du h
theorem xA {l:Lc}{src:Src}{eS:Mt}{test:Eb}{elt:Ev}{σ:St}{H:Hp}{Q:VK}(h:tL T XE (cg l src eS test elt) σ H Q):zt l (tW T XE src) (tT T yQ eS) (jQ T yQ test) (tE T yQ elt) σ H Q:=by
 obtain⟨ρ,env,s,hs,he,ho⟩:=h
 refine⟨ρ,env,s,hs,he,?_⟩
 unfold cg at ho
 cases e:src env s with
 | bad=>rw[e]at ho;exact ho
 | ex c s1=>rw[e]at ho;exact ho
 | ok p s1=>
  rw[e]at ho
  obtain⟨xs,gs⟩:=p
  obtain⟨hlen,ho⟩:=ho.a9
  have hlen:xs.length<=sizeLine:=hlen
  intro ρ1 H1 J u1 aT wk D hD
  have wk:Walks T ρ1 H1 xs gs J:=wk
  have nD:D∉ρ1:=aT.out hD
  refine⟨λ i m ys σ' H'=>m=xs.length - i/\i<=xs.length/\ys.length<=i/\∃ ρ' mM s' acc,Up ρ1 H1 ρ' H'/\SR T ρ' s' H'/\ER T ρ' H' mM σ'/\H' D=some (.lst ys)/\D∉ρ'/\aO T ρ' H' acc ys/\Out T XE (rL T) ρ H (bX eS test elt gs (xs.drop i) mM s' acc) Q,
   ⟨_,rfl,Nat.zero_le _,Nat.le_refl _,ρ1,vv l env,s1,[],aT.eK hD,aT.new hD,((he.up u1).up (aT.eK hD)).src l,aw,nD,.nil,ho⟩,?_⟩
  rintro i m ys σ' H' ⟨rfl,hi,hy,ρ',mM,s',acc,u',jd,NB,hd,QF,ka,cO⟩
  by_cases xb:i < xs.length
  ·rw[List.drop_eq_getElem_cons xb]at cO
   unfold bX at cO
   obtain⟨IU,cO⟩:=cO.a9
   obtain⟨w1,w2⟩:=(wk.turn ρ' s' H' u' jd IU).1 i xs[i] (List.getElem?_eq_getElem xb)
   refine .inr ⟨w1,λ x H'' R7=>?_⟩
   obtain⟨y1,y2,y3⟩:=w2 x H'' R7
   refine⟨ρ',mM,s',xs[i],y2,NB.up y1,y3,?_⟩
   have JE:=y1.fr D _ hd QF
   have R1:=ka.up y1
   cases et:eS xs[i] mM s' with
   | nx e1 s2=>
    simp only[et]at cO
    refine λ ρ2 H2 σ2 u2 fD lS=>⟨ρ2,e1,s2,fD,lS,?_⟩
    have hd2:=u2.fr D _ JE.1 JE.2
    have R0:=R1.up u2
    cases eb:test e1 s2 with
    | bad=>simp only[eb,uY,mN]at cO;exact cO.elim
    | ex c s3=>simp only[eb,R.calm,mN]at cO;exact cO.elim
    | ok b s3=>
     simp only[eb,xE,ay]at cO
     intro ρ3 H3 b' u3 nH S8
     cases (show b=b' from S8)
     have Nv:=u3.fr D _ hd2.1 hd2.2
     have QK:=R0.up u3
     have Qj:Up ρ1 H1 ρ3 H3:=((u'.trans y1).trans u2).trans u3
     cases b with
     | false=>
      rw[if_neg (by decide)]at cO ⊢
      exact⟨xs.length - (i+1),by omega,rfl,xb,by omega,ρ3,e1,s3,acc,Qj,nH,lS.up u3,Nv.1,Nv.2,QK,cO⟩
     | true=>
      rw[if_pos rfl]at cO ⊢
      refine⟨ρ3,e1,s3,nH,lS.up u3,?_⟩
      cases ev:elt e1 s3 with
      | bad=>simp only[ev,uY,mN]at cO;exact cO.elim
      | ex c s4=>simp only[ev,R.calm,mN]at cO;exact cO.elim
      | ok v s4=>
       simp only[ev,xE,ay]at cO
       intro ρ4 H4 x4 u4 RA Rk
       have LL:=u4.fr D _ Nv.1 Nv.2
       have RZ:=QK.up u4
       have g5:Gr ρ4 H4 ρ4 (upd H4 D (.lst (ys++[x4]))):=PN LL.1
       refine⟨LL.1,by omega,xs.length - (i+1),by omega,rfl,xb,by rw[List.length_append];exact Nat.succ_le_succ hy,ρ4,e1,s4,acc++[v],(Qj.trans u4).mod hD LL.2,RA.up g5 λ a ha=>ah λ z=>LL.2 (z ▸ ha),((lS.up u3).up u4).gr g5,aw,LL.2,(RZ.append (.one Rk)).gr g5,cO⟩
   | ex c s1=>simp only[et]at cO;exact cO.elim
   | rt v s2=>simp only[et]at cO;exact cO.elim
   | bk v s2=>simp only[et]at cO;exact cO.elim
   | ct v s2=>simp only[et]at cO;exact cO.elim
   | bad=>simp only[et]at cO;exact cO.elim
  ·have e:i=xs.length:=by omega
   subst e
   rw[List.drop_length]at cO
   unfold bX at cO
   obtain⟨IU,cO⟩:=cO.a9
   exact .inl ⟨(wk.turn ρ' s' H' u' jd IU).2,cO ρ' H' (.ref D) (u1.trans u') jd ⟨D,ys,rfl,u1.live D hD,QF,hd,ka⟩⟩
theorem D8 {elt tg iter:Expr}{ifs:List Expr}{scope:Scope}{src:Src}{eS:Mt}{test:Eb}{me:Ev}(l:Lc)(uF:eN X scope l)(lj:X.calm=true)(hi:PI X tg iter (tW T XE src))
  (hg:∀ cl C fp s3 H3,PG (bW X l scope cl C fp s3 H3) tg (tT T yQ eS)) (ht:∀ cl C fp s3 H3,Fx (bW X l scope cl C fp s3 H3) ifs (jQ T yQ test)) (he:∀ cl C fp s3 H3,PE (bW X l scope cl C fp s3 H3) elt (tE T yQ me))
  (hs:∀ x,foldedSetIterable iter X.env x=pure x:=by intro _;rfl):PE X (.ListComp elt [⟨tg,iter,ifs,0⟩] scope pos) (tL T XE (cg l src eS test me)):=
 PE.imp (DF l uF lj hi hg ht he hs) λ _ _ _ h=>xA h
theorem HC {r:eG}{σ:St}{H:Hp}{Q:VK}(h:tE T XE (aP r) σ H Q):tL T XE r σ H Q:=by
 obtain⟨ρ,env,s,hs,he,ho⟩:=h
 refine⟨ρ,env,s,hs,he,?_⟩
 unfold aP at ho
 cases e:r env s with
 | bad=>rw[e]at ho;exact ho
 | ex c s1=>rw[e]at ho;exact ho
 | ok vs s1=>
  rw[e]at ho
  intro ρ1 H1 x u sr ⟨a,ws,e1,h0,h1,h2,k⟩
  subst e1
  have g:Gr ρ1 H1 (ρ1++[a]) H1:=⟨List.prefix_append _ _,λ _ _ z=>z,λ _ _ _ z=>z⟩
  refine ho (ρ1++[a]) H1 (.ref a) (u.add h0) (sr.add h1 (OR.lst h2 (k.gr g))) (lu (T:=T) (H:=H1) ?_)
  rw[List.getElem?_append_right (by rw[sr.len];exact Nat.le_refl _),sr.len,Nat.sub_self];rfl
theorem vL {i:Nat}{y:Str}{py zB:Pos}{elt tg iter:Expr}{ifs:List Expr}{scope:Scope}{src:Src}{eS:Mt}{test:Eb}{me:Ev}(l:Lc)(uF:eN X scope l)(lj:X.calm=true)(hN:X.N.Nodup)(hi:PI X tg iter (tW T XE src))
  (hg:∀ cl C fp s3 H3,PG (bW X l scope cl C fp s3 H3) tg (tT T yQ eS)) (ht:∀ cl C fp s3 H3,Fx (bW X l scope cl C fp s3 H3) ifs (jQ T yQ test)) (he:∀ cl C fp s3 H3,PE (bW X l scope cl C fp s3 H3) elt (tE T yQ me))
  (hy:X.N[i]? = some y:=by rfl) (hx:X.env.scope.names.lookup y=some .local:=by rfl)
  (O_:swapsWith (.ListComp elt [⟨tg,iter,ifs,0⟩] scope pos) (some (.Name y py)) zB.line X.env=pure true:=by rfl)
  (hs:∀ x,foldedSetIterable iter X.env x=pure x:=by intro _;rfl) :
  PS X (.Assign [.Name y py] (.ListComp elt [⟨tg,iter,ifs,0⟩] scope pos) zB) (tS T XE (bY i (aP (cg l src eS test me)))):=
 PS.imp (vD l uF lj hN hy hx hi hg ht he O_ hs) λ D σ H h=>xA (HC (Ca h))
def eL (n:Nat)(body:Ms):List AV->S->R AV:=λ args s=>match body (args.map some++List.replicate (n - args.length) none) s with
 | .rt v s1=>.ok v s1
 | .nx _ s1=>.ok .aC s1
 | .ex c s1=>.ex c s1
 | _=>.bad
theorem uM {ρ:List Addr}{H:Hp}{args:List AV}{vs:List V}(N:List Str)(k:aO T ρ H args vs):ER T ρ H (args.map some++List.replicate (N.length - args.length) none) (L2.start N vs):=by
 refine⟨by simp[L2.start,k.length],λ i v e=>?_⟩
 unfold L2.start
 have hi:i < args.length:=by
  by_cases hi:i < args.length
  ·exact hi
  ·rw[List.getElem?_append_right (by simpa using hi),List.getElem?_replicate]at e
   split at e<;>cases e
 rw[List.getElem?_append_left (by simpa using hi),List.getElem?_map]at e
 cases ea:args[i]? with
 | none=>rw[ea]at e;cases e
 | some w=>
  rw[ea]at e;cases e
  obtain⟨x,ex,q⟩:=k.get ea
  exact⟨x,by rw[List.getElem?_append_left (by simpa[<-k.length]using hi),List.getElem?_map,ex];rfl,q⟩
def aE (n:Nat)(F:List AV->S->R AV)(r:eG):Ev:=λ env s=>(r env s).bind λ vs s1=>if vs.length=n then F vs s1 else .bad
end
end Mm
namespace Ro
open PySem L2
def pW (top below:Int):Int:=if below < 0 then -((Int.gcd top below:Nat):Int) else ((Int.gcd top below:Nat):Int)
def fr (top below:Int):Int × Int:=(top.fdiv (pW top below),below.fdiv (pW top below))
theorem mJ {t b:Int}(h:b≠0):0 < Int.gcd t b:=Int.gcd_pos_of_ne_zero_right t h
theorem IZ {t b:Int}(h:b≠0):pW t b≠0:=by
 have:=mJ (t:=t) h
 unfold pW
 split<;>omega
theorem vZ (t b:Int):(pW t b).natAbs=Int.gcd t b:=by
 unfold pW
 split<;>omega
theorem yz (t b:Int):pW t b ∣ t:=by
 unfold pW
 split
 ·exact(Int.neg_dvd).mpr (Int.gcd_dvd_left ..)
 ·exact Int.gcd_dvd_left ..
theorem yy (t b:Int):pW t b ∣ b:=by
 unfold pW
 split
 ·exact(Int.neg_dvd).mpr (Int.gcd_dvd_right ..)
 ·exact Int.gcd_dvd_right ..
theorem nV {a g:Int}(h:g ∣ a):a.fdiv g * g=a:=Int.fdiv_mul_cancel h
theorem BN {x y v:Int}(h:y ∣ x * v)(h2:Int.gcd x y=1):y ∣ v:=by
 have h1:y.natAbs ∣ x.natAbs * v.natAbs:=by rw[<-Int.natAbs_mul];exact Int.natAbs_dvd_natAbs.mpr h
 have hc:Nat.Coprime y.natAbs x.natAbs:=by
  show Nat.gcd y.natAbs x.natAbs=1
  rw[Nat.gcd_comm]
  exact h2
 exact Int.natAbs_dvd_natAbs.mp (hc.dvd_of_dvd_mul_left h1)
theorem I_ (t b:Int):(fr t b).1 * pW t b=t:=nV (yz t b)
theorem E3 (t b:Int):(fr t b).2 * pW t b=b:=nV (yy t b)
theorem BB (t b:Int)(h:b≠0):(fr t b).1 * b=t * (fr t b).2:=by
 have h1:=I_ t b
 have h2:=E3 t b
 generalize (fr t b).1=x at *
 generalize (fr t b).2=y at *
 generalize pW t b=g at *
 subst h1
 rw[<-h2]
 rw[Int.mul_comm y g,<-Int.mul_assoc,Int.mul_right_comm]
theorem I0 (t b:Int)(h:b≠0):1<=(fr t b).2:=by
 have h2:=E3 t b
 have hg:=mJ (t:=t) h
 have hb:(pW t b < 0/\b < 0)∨(0 < pW t b/\0 < b):=by
  unfold pW
  split
  ·left;omega
  ·right;omega
 generalize (fr t b).2=y at *
 generalize pW t b=g at *
 rcases hb with⟨h3,h4⟩|⟨h3,h4⟩
 ·refine Int.not_lt.mp λ hy=>?_
  have:0<=y * g:=Int.mul_nonneg_of_nonpos_of_nonpos (by omega) (by omega)
  omega
 ·refine Int.not_lt.mp λ hy=>?_
  have:y * g<=0:=Int.mul_nonpos_of_nonpos_of_nonneg (by omega) (by omega)
  omega
theorem Ja (t b:Int)(h:b≠0):Int.gcd (fr t b).1 (fr t b).2=1:=by
 have h1:=I_ t b
 have h2:=E3 t b
 have hg:=mJ (t:=t) h
 have hn:=vZ t b
 have e:Int.gcd ((fr t b).1 * pW t b) ((fr t b).2 * pW t b)=Int.gcd (fr t b).1 (fr t b).2 * (pW t b).natAbs:=Int.gcd_mul_right ..
 rw[h1,h2,hn]at e
 have:1 * Int.gcd t b=Int.gcd (fr t b).1 (fr t b).2 * Int.gcd t b:=by rw[Nat.one_mul];exact e
 exact(Nat.eq_of_mul_eq_mul_right hg this).symm
theorem E2 {x y t b:Int}(hb:b≠0)(h1:1<=y)(h2:Int.gcd x y=1)(h3:x * b=t * y):fr t b=(x,y):=by
 have k1:=I0 t b hb
 have k2:=Ja t b hb
 have k3:=BB t b hb
 have e:x * (fr t b).2=(fr t b).1 * y:=by
  refine Int.eq_of_mul_eq_mul_right hb ?_
  have e1:x * (fr t b).2 * b=x * b * (fr t b).2:=Int.mul_right_comm ..
  have e2:(fr t b).1 * y * b=(fr t b).1 * b * y:=Int.mul_right_comm ..
  rw[e1,e2,h3,k3,Int.mul_right_comm]
 generalize hx:(fr t b).1=u at *
 generalize hy:(fr t b).2=v at *
 have d1:y ∣ v:=by
  have:y ∣ x * v:=⟨u,by rw[e,Int.mul_comm]⟩
  exact BN this h2
 have d2:v ∣ y:=by
  have:v ∣ u * y:=⟨x,by rw[<-e,Int.mul_comm]⟩
  exact BN this k2
 have ev:v=y:=Int.dvd_antisymm (by omega) (by omega) d2 d1
 have eu:u=x:=by
  rw[ev]at e
  exact(Int.eq_of_mul_eq_mul_right (by omega) e).symm
 rw[show fr t b=(u,v) from by rw[<-hx,<-hy],eu,ev]
def low (top below:Int):Int × Int:=
 (((if below < 0 then -1 else 1) * top).fdiv ((Int.gcd top below:Nat):Int),((if below < 0 then -1 else 1) * below).fdiv ((Int.gcd top below:Nat):Int))
theorem Ir (t b:Int)(hb:b≠0):low t b=fr t b:=by
 unfold low fr pW
 by_cases h:b < 0
 ·rw[if_pos h,if_pos h]
  have hg:=mJ (t:=t) hb
  have key:∀ a:Int,((Int.gcd t b:Nat):Int) ∣ a->(-1 * a).fdiv ((Int.gcd t b:Nat):Int)=a.fdiv (-((Int.gcd t b:Nat):Int)):=by
   intro a ⟨c,hc⟩
   rw[hc]
   have e1:(-1 * (((Int.gcd t b:Nat):Int) * c))=(-c) * ((Int.gcd t b:Nat):Int):=by
    rw[Int.neg_mul,Int.one_mul,Int.mul_comm,Int.neg_mul]
   have e2:(((Int.gcd t b:Nat):Int) * c)=(-c) * (-((Int.gcd t b:Nat):Int)):=by
    rw[Int.neg_mul_neg,Int.mul_comm]
   rw[e1,Int.mul_fdiv_cancel _ (by omega),e2,Int.mul_fdiv_cancel _ (by omega)]
  rw[key t (Int.gcd_dvd_left ..),key b (Int.gcd_dvd_right ..)]
 ·rw[if_neg h,if_neg h,Int.one_mul,Int.one_mul]
end Ro
namespace Ro
open PySem L2
theorem boot_abs:bootBuiltins "abs"=some (.builtin "abs"):=by decide +kernel
theorem boot_divmod:bootBuiltins "divmod"=some (.builtin "divmod"):=by decide +kernel
theorem boot_list:bootBuiltins "list"=some (.type "list"):=by decide +kernel
theorem boot_tuple:bootBuiltins "tuple"=some (.type "tuple"):=by decide +kernel
theorem boot_int:bootBuiltins "int"=some (.type "int"):=by decide +kernel
theorem boot_bool:bootBuiltins "bool"=some (.type "bool"):=by decide +kernel
theorem boot_str:bootBuiltins "str"=some (.type "str"):=by decide +kernel
theorem boot_isinstance:bootBuiltins "isinstance"=some (.builtin "isinstance"):=by decide +kernel
theorem boot_all:bootBuiltins "all"=some (.builtin "all"):=by decide +kernel
theorem RY:¬ (("cells":Str)="turn"):=by decide +kernel
theorem Oy:(10:Int) ^ (18:Int).toNat=1000000000000000000:=by decide +kernel
end Ro
namespace L2
open PySem PySem.Spec PyProof.Rows
def M3 (K:PySem.W.Frag)(H:Hp)(x:V)(t:String):Prop:=match x with
 | .aC=>t="NoneType"
 | .bl _=>t="bool"
 | .int _=>t="int"
 | .str _=>t="str"
 | .ref a=>(t="tuple"/\∃ xs,hW K H a xs)∨(t="list"/\∃ xs,fB K H a xs)∨(t="dict"/\((∃ kvs,H a=some (.dK kvs))∨∃ kvs,H a=some (.dT kvs)))
 | _=>False
def Ot (K:PySem.W.Frag):List V->Hp->VK->Prop:=λ xs H Q=>∃ (t:String) (x:V) (n:String) (b:Bool),xs=[x,.ty n]/\M3 K H x t/\PySem.W.kitOne K (.type t) (.type n)=some b/\Q (.bl b) H
theorem B4 {X:Cx}:dP X (.builtin "isinstance") (Ot X.K):=by
 intro pins s σ H xs us Q I r h
 obtain⟨t,x,n,b,rfl,hd,e,q⟩:=h
 obtain⟨u,w',rfl,ru,se⟩:=vals2 r
 obtain rfl:w'=Value.type n:=se
 have fin:∀ tk,EP X pins σ Q (.bool b) { s with toks:=tk }:=λ tk=>⟨.bl b,H,I.tok tk,rfl,q⟩
 cases x with
 | aC=>cases (show t=_ from hd);exact kO I ru .aC e fin
 | bl y=>cases (show t=_ from hd);exact kO I ru (.bl y) e fin
 | int y=>cases (show t=_ from hd);exact kO I ru (.int y) e fin
 | str y=>cases (show t=_ from hd);exact kO I ru (.str y) e fin
 | ref a=>
  cases ru
  rcases hd with⟨rfl,ys,q1⟩|⟨rfl,ys,q1⟩|⟨rfl,hk⟩
  ·obtain⟨its,_,p,_⟩:=I.tuple q1
   obtain⟨o,h1,h2,_⟩:=p
   exact PySem.W.kia_one PySem.W.kitx_tuple I.jl ⟨o,h1,h2⟩ e (λ z=>nomatch z) fin
  ·obtain⟨its,_,p,_⟩:=I.list q1
   obtain⟨o,h1,h2,_⟩:=p.isList
   exact PySem.W.kia_one PySem.W.kitx_list I.jl ⟨o,h1,h2⟩ e (λ z=>nomatch z) fin
  ·have z:∃ o,s.heap.get? a=some o/\o.ExactDict:=by
    rcases hk with⟨kvs,hk⟩|⟨kvs,hk⟩
    ·obtain⟨_,_,_,_,o,_,_,e,ex,_⟩:=I.aX a _ hk
     exact⟨o,e,ex⟩
    ·obtain⟨_,_,_,_,o,_,_,e,ex,_⟩:=I.aX a _ hk
     exact⟨o,e,ex⟩
   obtain⟨o,h1,h2⟩:=z
   exact PySem.W.kia_one PySem.W.kitx_dict I.jl ⟨o,h1,h2.1⟩ e (λ z=>nomatch z) fin
 | wb y=>exact False.elim hd
 | F0 y=>exact False.elim hd
 | ty y=>exact False.elim hd
end L2
namespace Mm
open PySem L2
section
variable {T:Tx}{XE:gJ}{X:Cx}{pos:Pos}
def Kj (T:Tx)(XE:gJ)(op:List AV->S->R AV):List V->Hp->VK->Prop:=λ vs H Q=>∃ ρ args s,SR T ρ s H/\aO T ρ H args vs/\Out T XE (rV T) ρ H (op args s) Q
def Ov {α:Type}(T:Tx)(XE:gJ)(rl:Rl α V)(op:List AV->S->R α):List V->Hp->VK->Prop:=λ vs H Q=>∃ a ws ρ xs s,vs=[.ref a]/\SR T ρ s H/\(fB T.K H a ws∨hW T.K H a ws)/\aO T ρ H xs ws/\Out T XE rl ρ H (op xs s) Q
def tN (op:List AV->S->R AV)(r:eG):Ev:=λ env s=>(r env s).bind op
def Cr {α:Type}(op:List AV->S->R α)(r:eG):En->S->R α:=λ env s=>(r env s).bind op
theorem MV {op:List AV->S->R AV}{r:eG}{σ:St}{H:Hp}{Q:VK}(h:tE T XE (tN op r) σ H Q):J_ (Kj T XE op) (tP T XE r) σ H Q:=by
 obtain⟨ρ,env,s,hs,he,ho⟩:=h
 exact step hs he ho λ v s1 ρ1 H1 x _ u1 aT cz aN az=>⟨ρ1,v,s1,aT,aN,az⟩
theorem MR {α:Type}{rl:Rl α V}{op:List AV->S->R α}{r:eG}{σ:St}{H:Hp}{Q:VK}(h:tG T XE rl (Cr op r) σ H Q):J_ (Ov T XE rl op) (qK (tQ T XE r) ub) σ H Q:=by
 obtain⟨ρ,env,s,hs,he,ho⟩:=h
 refine step hs he ho λ v s1 ρ1 H1 x _ u1 aT cz aN az=>?_
 obtain⟨a,ws,rfl,q,k⟩:=aN
 exact⟨a,ws,ρ1,v,s1,rfl,aT,q,k,az⟩
theorem Im {id:String}{op:List AV->S->R AV}{x:Str}{p:Pos}{e:Expr}{es:List Expr}{r:eG}(hc:dP X (.builtin id) (Kj T XE op)) (hm:X.mg x=none)(hv:bootBuiltins x=some (.builtin id)) (ha:PA X (e :: es) (tP T XE r)) (hg:Gl X x:=by rfl)(hn:x≠"__name__":=by decide)(jn:(x == ("__debug__":Str))=false:=by decide)
  (he:starEach (e :: es) X.env=(false,eval e X.env) :: starEach es X.env:=by rfl) (fj:(backTo pos (starEach es X.env)).any (·.1)=false:=by rfl):PE X (.Call (.Name x p) (e :: es) [] pos) (tE T XE (tN op r)):=
 PE.imp (eU hc hg hm hv ha hn jn he fj) λ _ _ _ h=>MV h
theorem OS {α:Type}{rl:Rl α V}{id:String}{op:List AV->S->R α}{x:Str}{p:Pos}{e:Expr}{r:eG}(hc:dP X (.type id) (Ov T XE rl op)) (hm:X.mg x=none)(hv:bootBuiltins x=some (.type id)) (ha:PE X e (tQ T XE r)) (hg:Gl X x:=by rfl)(hn:x≠"__name__":=by decide)(jn:(x == ("__debug__":Str))=false:=by decide)
  (he:starEach [e] X.env=(false,eval e X.env) :: starEach [] X.env:=by rfl) (fj:(backTo pos (starEach [] X.env)).any (·.1)=false:=by rfl):PE X (.Call (.Name x p) [e] [] pos) (tG T XE rl (Cr op r)):=
 PE.imp (yc hc hg hm hv (cb ha fF he) hn jn he fj) λ _ _ _ h=>MR h
def qS:List AV->S->R AV
 | [.int i],s=>.ok (.int (if i < 0 then -i else i)) s
 | _,_=>.bad
theorem aO.jg {ρ:List Addr}{H:Hp}{v:AV}{xs:List V}(h:aO T ρ H [v] xs):∃ x,xs=[x]/\VR T ρ H v x:=by
 obtain⟨x,ys,rfl,k1,k2⟩:=h.cons_inv
 cases k2.nil_inv
 exact⟨x,rfl,k1⟩
theorem aO.two_inv {ρ:List Addr}{H:Hp}{v w:AV}{xs:List V}(h:aO T ρ H [v,w] xs):∃ x y,xs=[x,y]/\VR T ρ H v x/\VR T ρ H w y:=by
 obtain⟨x,ys,rfl,k1,k2⟩:=h.cons_inv
 obtain⟨y,rfl,k3⟩:=k2.jg
 exact⟨x,y,rfl,k1,k3⟩
theorem cAbs:dP X (.builtin "abs") (Kj T XE qS):=by
 intro pins s σ H xs us Q I r ⟨ρ,args,st,sr,va,ho⟩
 unfold qS at ho
 split at ho
 ·obtain⟨x,rfl,k⟩:=va.jg
  cases k.int_inv
  exact B5 pins s σ H _ us Q I r ⟨_,rfl,ho.aS sr eI⟩
 ·exact ho.elim
def KG:List AV->S->R AV
 | [.int i,.int j],s=>.ok (.int (if j < i then j else i)) s
 | _,_=>.bad
noncomputable def jW:List AV->S->R AV
 | [.int i,.int j],s=>if 0 < j/\Jt j then .ok (.tup [.int (i / j),.int (i % j)]) s else .bad
 | _,_=>.bad
theorem Fi:dP X (.builtin "divmod") (Kj T XE jW):=by
 intro pins s σ H xs us Q I r ⟨ρ,args,st,sr,va,ho⟩
 unfold jW at ho
 split at ho
 ·obtain⟨x,y,rfl,k,k2⟩:=va.two_inv
  cases k.int_inv
  cases k2.int_inv
  obtain⟨hl,ho⟩:=ho.a9
  exact tj pins s σ H _ us Q I r ⟨_,_,rfl,⟨hl.1,hl.2.f⟩,λ p hp=>ho.tup sr hp (.cons eI (.one eI))⟩
 ·exact ho.elim
def FH:List AV->S->R AV
 | [.int i],s=>.ok (.int i) s
 | [.bl b],s=>.ok (.int (if b then 1 else 0)) s
 | _,_=>.bad
def ie:List AV->S->R AV
 | [.str z],s=>if z.length<=sizeLine then .ok (.int z.length) s else .bad
 | [v],s=>need (items v s) λ xs=>.ok (.int xs.length) s
 | _,_=>.bad
theorem P6 (hK:X.K=T.K):dP X (.builtin "len") (Kj T XE ie):=by
 intro pins s σ H xs us Q I r ⟨ρ,args,st,sr,va,ho⟩
 have rest:∀ v,args=[v]->Out T XE (rV T) ρ H (need (items v st) λ xs=>.ok (.int xs.length) st) Q->wpAny (model X.prog X.w) X.A (call (.builtin "len") us) (EP X pins σ Q) X.xe s:=by
  rintro v rfl ho
  obtain⟨ys,e,ho⟩:=ho.ar
  obtain⟨x,rfl,k⟩:=va.jg
  obtain⟨a,vs,rfl,h1,k1⟩:=kN e sr k
  exact tf pins s σ H _ us Q I r ⟨a,vs,rfl,by rw[hK];exact h1,by rw[<-k1.length];exact ho.aS sr eI⟩
 unfold ie at ho
 split at ho
 ·obtain⟨x,rfl,k⟩:=va.jg
  cases k.str_inv
  obtain⟨hl,ho⟩:=ho.a9
  exact s_ pins s σ H _ us Q I r ⟨_,rfl,hl,ho.aS sr eI⟩
 ·exact rest _ rfl ho
 ·exact ho.elim
def qz:List AV->Option (List Bool)
 | []=>some []
 | .bl i :: r=>(qz r).map (i :: ·)
 | _ :: _=>none
theorem u6:∀ {l:List AV}{ns:List Bool},qz l=some ns->l=ns.map .bl
 | [],_,h=>by cases h;rfl
 | v :: r,ns,h=>by
  cases v<;>try cases h
  rename_i i
  cases e:qz r with
  | none=>rw[show qz (.bl i :: r)=(qz r).map (i :: ·) from rfl,e]at h;cases h
  | some q=>
   rw[show qz (.bl i :: r)=(qz r).map (i :: ·) from rfl,e]at h;cases h
   rw[u6 e];rfl
def zL (xs:List AV)(s:S):R AV:=need (qz xs) λ ns=>.ok (.bl (ns.all id)) s
def Ow {α:Type}(T:Tx)(XE:gJ)(rl:Rl α V)(op:List AV->S->R α):List V->Hp->VK->Prop:=λ vs H Q=>∃ a ws ρ xs s,vs=[.ref a]/\SR T ρ s H/\H a=some (.lst ws)/\aO T ρ H xs ws/\Out T XE rl ρ H (op xs s) Q
theorem MS {α:Type}{rl:Rl α V}{op:List AV->S->R α}{r:eG}{σ:St}{H:Hp}{Q:VK}(h:tG T XE rl (Cr op r) σ H Q):J_ (Ow T XE rl op) (qK (tL T XE r) ub) σ H Q:=by
 obtain⟨ρ,env,s,hs,he,ho⟩:=h
 refine step hs he ho λ v s1 ρ1 H1 x _ u1 aT cz aN az=>?_
 obtain⟨a,ws,rfl,_,_,q,k⟩:=aN
 exact⟨a,ws,ρ1,v,s1,rfl,aT,q,k,az⟩
theorem K5 {α:Type}{rl:Rl α V}{id:String}{op:List AV->S->R α}{x:Str}{p:Pos}{e:Expr}{r:eG}(hc:dP X (.builtin id) (Ow T XE rl op)) (hm:X.mg x=none)(hv:bootBuiltins x=some (.builtin id)) (ha:PE X e (tL T XE r)) (hg:Gl X x:=by rfl)(hn:x≠"__name__":=by decide)(jn:(x == ("__debug__":Str))=false:=by decide)
  (he:starEach [e] X.env=(false,eval e X.env) :: starEach [] X.env:=by rfl) (fj:(backTo pos (starEach [] X.env)).any (·.1)=false:=by rfl):PE X (.Call (.Name x p) [e] [] pos) (tG T XE rl (Cr op r)):=
 PE.imp (eU hc hg hm hv (cb ha fF he) hn jn he fj) λ _ _ _ h=>MS h
theorem P7 (hc:X.calm=true):dP X (.builtin "all") (Ow T XE (rV T) zL):=by
 intro pins s σ H xs us Q I r ⟨a,ws,ρ,ys,st,e,sr,h1,k,ho⟩
 subst e
 obtain⟨ns,e,ho⟩:=ho.ar
 rw[u6 e]at k
 rw[k.xG]at h1
 exact yI hc pins s σ H _ us Q I r ⟨a,ns,rfl,fB.of h1,ho.aS sr dW⟩
def wF (xs:List AV)(s:S):R (List AV):=.ok xs s
theorem MX (hK:X.K=T.K):dP X (.type "list") (Ov T XE (rL T) wF):=by
 intro pins s σ H xs us Q I r ⟨a,ws,ρ,ys,st,e,sr,h1,k,ho⟩
 subst e
 exact sZ pins s σ H _ us Q I r ⟨a,ws,rfl,by rw[hK];exact h1,λ l hl=>ho.lst sr hl k⟩
def wz (v:AV)(s:S):Option String:=match v with
 | .aC=>some "NoneType"
 | .bl _=>some "bool"
 | .int _=>some "int"
 | .str _=>some "str"
 | .tup _=>some "tuple"
 | .sq _=>some "list"
 | .ref i=>match s[i]? with
  | some (.lst _)=>some "list"
  | some (.dK _)=>some "dict"
  | some (.dT _)=>some "dict"
  | _=>none
def eR:List String:=["NoneType","bool","int","str","tuple","list","dict"]
def fz (t n:String):Bool:=t == n || (t == "bool" && n == "int")
theorem Iz {K:PySem.W.Frag}{t n:String}(ht:t∈eR)(hn:n∈eR):PySem.W.kitOne K (.type t) (.type n)=some (fz t n):=by
 simp only[eR,List.mem_cons,List.not_mem_nil,or_false]at ht hn
 rcases ht with rfl|rfl|rfl|rfl|rfl|rfl|rfl<;>rcases hn with rfl|rfl|rfl|rfl|rfl|rfl|rfl<;>rfl
theorem CN {ρ:List Addr}{H:Hp}{s:S}{v:AV}{t:String}{x:V}(h:wz v s=some t)(sr:SR T ρ s H)(va:VR T ρ H v x):M3 T.K H x t/\t∈eR:=by
 cases v with
 | aC=>cases va.gH;cases h;exact⟨rfl,by simp[eR]⟩
 | bl c=>cases va.hJ;cases h;exact⟨rfl,by simp[eR]⟩
 | int c=>cases va.int_inv;cases h;exact⟨rfl,by simp[eR]⟩
 | str c=>cases va.str_inv;cases h;exact⟨rfl,by simp[eR]⟩
 | tup c=>obtain⟨a,vs,rfl,h1,k⟩:=va.dg;cases h;exact⟨.inl ⟨rfl,vs,h1⟩,by simp[eR]⟩
 | sq c=>obtain⟨a,vs,rfl,h1,k⟩:=va.fW;cases h;exact⟨.inr (.inl ⟨rfl,vs,h1.xX⟩),by simp[eR]⟩
 | ref i=>
  have h:(match s[i]? with
  | some (.lst _)=>some "list"
  | some (.dK _)=>some "dict"
  | some (.dT _)=>some "dict"
  | _=>none)=some t:=h
  obtain⟨a,e1,rfl⟩:=va.fK
  split at h
  ·rename_i xs e
   cases h
   obtain⟨b,e2,vs,h1,_⟩:=sr.obj i _ e
   rw[e1]at e2;cases e2
   exact⟨.inr (.inl ⟨rfl,vs,fB.of h1⟩),by simp[eR]⟩
  ·rename_i xs e
   cases h
   obtain⟨b,e2,vs,h1,_⟩:=sr.obj i _ e
   rw[e1]at e2;cases e2
   exact⟨.inr (.inr ⟨rfl,.inl ⟨vs,h1⟩⟩),by simp[eR]⟩
  ·rename_i xs e
   cases h
   obtain⟨b,e2,vs,h1,_⟩:=sr.obj i _ e
   rw[e1]at e2;cases e2
   exact⟨.inr (.inr ⟨rfl,.inr ⟨vs,h1⟩⟩),by simp[eR]⟩
  ·cases h
def fQ (n:String)(v:AV)(s:S):R AV:=need (wz v s) λ t=>.ok (.bl (fz t n)) s
theorem Ia {n:String}{nm:Str}{p p2:Pos}{e:Expr}{m:Ev}(hK:X.K=T.K)(hn:n∈eR)(hm:X.mg "isinstance"=none)(Pj:X.mg nm=none)(Sa:bootBuiltins nm=some (.type n)) (ha:PE X e (tE T XE m)) (hg:Gl X "isinstance":=by rfl)(IT:Gl X nm:=by rfl)(Sn:nm≠"__name__":=by decide)(jn:(nm == ("__debug__":Str))=false:=by decide)
  (he:starEach [e,.Name nm p2] X.env=(false,eval e X.env) :: starEach [.Name nm p2] X.env:=by rfl) (xf:starEach [.Name nm p2] X.env=(false,eval (.Name nm p2) X.env) :: starEach [] X.env:=by rfl) (fj:(backTo pos (starEach [.Name nm p2] X.env)).any (·.1)=false:=by rfl) :
  PE X (.Call (.Name "isinstance" p) [e,.Name nm p2] [] pos) (tE T XE (cC (fQ n) m)):=
 PE.imp (eU B4 hg hm Ro.boot_isinstance (cb ha (cb (wI (v:=.ty n) IT Pj Sa rfl Sn jn) fF xf) he) (by decide) (by decide) he fj) λ σ H Q ⟨ρ,env,s,hs,he,ho⟩=>
  step hs he ho λ v s1 ρ1 H1 x _ u1 aT cz aN az=>by
   obtain⟨t,e,az⟩:=az.ar
   obtain⟨h1,h2⟩:=CN e aT aN
   exact⟨t,x,n,_,rfl,by rw[hK];exact h1,Iz h2 hn,az.aS aT dW⟩
end
end Mm
namespace Mm
open PySem L2
section
variable {T:Tx}{XE:gJ}{X:Cx}{pos:Pos}
def Nf (T:Tx)(XE:gJ)(op:AV->List AV->S->R AV):V->List V->Hp->VK->Prop:=λ x xs H Q=>∃ ρ v vs s,SR T ρ s H/\VR T ρ H v x/\aO T ρ H vs xs/\Out T XE (rV T) ρ H (op v vs s) Q
def iX (n:String)(v:AV)(s:S):Option Unit:=match v,n with
 | .str _,"str"=>some ()
 | .sq _,"list"=>some ()
 | .ref i,"list"=>(ak s i).map λ _=>()
 | .ref i,"dict"=>match s[i]? with
  | some (.dK _)=>some ()
  | some (.dT _)=>some ()
  | _=>none
 | _,_=>none
theorem pQ {n:String}{ρ:List Addr}{H:Hp}{s:S}{v:AV}{x:V}(h:iX n v s=some ()) (sr:SR T ρ s H)(va:VR T ρ H v x):Na T.K n x H:=by
 unfold iX at h
 split at h
 ·cases va.str_inv;rfl
 ·obtain⟨a,vs,rfl,h1,k⟩:=va.fW
  exact .inl ⟨rfl,vs,h1.xX⟩
 ·rename_i i
  cases e:ak s i with
  | none=>rw[e]at h;cases h
  | some xs=>
   obtain⟨a,vs,rfl,_,h1,k⟩:=sr.fw (aB e) va
   exact .inl ⟨rfl,vs,fB.of h1⟩
 ·rename_i i
  obtain⟨a,e1,rfl⟩:=va.fK
  split at h
  ·rename_i xs e
   obtain⟨b,e2,vs,h1,_⟩:=sr.obj i _ e
   rw[e1]at e2;cases e2
   exact .inr (.inr (.inl ⟨rfl,.inl ⟨vs,h1⟩⟩))
  ·rename_i xs e
   obtain⟨b,e2,vs,h1,_⟩:=sr.obj i _ e
   rw[e1]at e2;cases e2
   exact .inr (.inr (.inl ⟨rfl,.inr ⟨vs,h1⟩⟩))
  ·cases h
 ·cases h
def pL (n:String)(op:AV->List AV->S->R AV)(o:Ev)(r:eG):Ev:=λ env s=>(o env s).bind λ v s1=>need (iX n v s1) λ _=>(r env s1).bind λ vs s2=>op v vs s2
theorem HS {n:String}{op:AV->List AV->S->R AV}{o:Ev}{r:eG}{σ:St}{H:Hp}{Q:VK}(h:tE T XE (pL n op o r) σ H Q):N_ T.K n (Nf T XE op) (tE T XE o) (tP T XE r) σ H Q:=by
 obtain⟨ρ,env,s,hs,he,ho⟩:=h
 refine step hs he ho λ v s1 ρ1 H1 x _ u1 aT cz aN az=>?_
 obtain⟨_,e,az⟩:=az.ar
 exact⟨pQ e aT aN,step aT cz az λ vs s2 ρ2 H2 xs _ u2 fD lS iE cZ=>⟨ρ2,v,vs,s2,fD,VR.up u2 aN,iE,cZ⟩⟩
theorem A3 {n id:String}{name:Str}{apos bE:Pos}{o e:Expr}{es:List Expr}{op:AV->List AV->S->R AV}{m:Ev}{r:eG}(hK:X.K=T.K)(pa:PlainAttrs n)(slot:Slot n name id)(EL:typeOf (.builtin id)=pure (.type "method_descriptor")) (hm:Cy X id (Nf T XE op)) (ho:PE X o (tE T XE m)) (ha:PA X (e :: es) (tP T XE r))
  (kj:attributeBase o name X.env (eval o X.env)=eval o X.env:=by rfl)
  (vX:((backTo bE (starEach (e :: es) X.env)).all (λ x=>!x.1) && (backToKw bE (keywordEach [] X.env)).all (λ x=>x.1.isSome)
   && decide ((e :: es).length+([]:List Keyword).length+(if ([]:List Keyword).isEmpty then 0 else 1) < 30))=true:=by rfl)
  (ki:(apos.endLine == bE.line)=true:=by rfl) (hs:starEach (e :: es) X.env=(false,eval e X.env) :: starEach es X.env:=by rfl) (lM:(backTo bE (starEach es X.env)).any (·.1)=false:=by rfl) :
  PE X (.Call (.Attribute o name apos) (e :: es) [] bE) (tE T XE (pL n op m r)):=
 PE.imp (Ak hK pa slot EL hm ho ha kj vX ki hs lM) λ _ _ _ h=>HS h
def FK (n:String)(op:AV->List AV->S->R AV)(o:Ev):Ev:=λ env s=>(o env s).bind λ v s1=>need (iX n v s1) λ _=>op v [] s1
theorem Out.Oe {α β:Type}{rl:Rl α β}{ρ:List Addr}{H:Hp}{s:S}{i:Nat}{a:Addr}{vs ws:List V}{ys:List AV}{v:α}{x:β}{Q:β->Hp->Prop}(ho:Out T XE rl ρ H (.ok v (s.set i (.lst ys))) Q) (sr:SR T ρ s H)(ea:ρ[i]? = some a)(h1:H a=some (.lst vs)) (k:aO T ρ H ys ws)(hx:rl.r H ρ (upd H a (.lst ws)) v x):Q x (upd H a (.lst ws)):=by
 have up:Up ρ H ρ (upd H a (.lst ws)):=sr.qH ea h1 (λ _ z=>nomatch z) (λ _ _ z=>nomatch z)
 exact ho ρ _ x up (sr.set ea up (OR.lst aw (k.up up))) hx
theorem Out.FD {ρ:List Addr}{H:Hp}{s:S}{i:Nat}{a:Addr}{vs ws:List V}{ys:List AV}{v:AV}{x:V}{Q:VK}(ho:Out T XE (rV T) ρ H (.ok v (s.set i (.lst ys))) Q) (sr:SR T ρ s H)(ea:ρ[i]? = some a)(h1:H a=some (.lst vs)) (k:aO T ρ H ys ws)(hx:VR T ρ (upd H a (.lst ws)) v x):Q x (upd H a (.lst ws)):=ho.Oe sr ea h1 k hx
def cV:AV->List AV->S->R AV
 | .ref i,[w],s=>need (ak s i) λ xs=>if xs.length < sizeLine then .ok .aC (s.set i (.lst (xs++[w]))) else .bad
 | _,_,_=>.bad
theorem Fe:Cy X "list.append" (Nf T XE cV):=by
 intro pins s σ H x xs v us Q I rx rv ⟨ρ,a,vs,st,sr,va,vb,ho⟩
 unfold cV at ho
 split at ho
 ·obtain⟨ys,e,ho⟩:=ho.ar
  obtain⟨hl,ho⟩:=ho.a9
  obtain⟨p,ws,rfl,ea,h1,k⟩:=sr.fw (aB e) va
  obtain⟨y,rfl,k2⟩:=vb.jg
  exact qW pins s σ H _ _ v us Q I rx rv ⟨p,ws,y,rfl,rfl,h1,by rw[<-k.length];exact hl,ho.FD sr ea h1 (k.append (.one k2)) oY⟩
 ·exact ho.elim
def uk:AV->List AV->S->R AV
 | .ref i,[.int j],s=>need (ak s i) λ xs=>if 0<=j/\j < xs.length then need xs[j.toNat]? λ y=>.ok y (s.set i (.lst (xs.eraseIdx j.toNat))) else .bad
 | _,_,_=>.bad
theorem aO.erase {ρ:List Addr}{H:Hp}:∀ {l:List AV}{xs:List V}(i:Nat),aO T ρ H l xs->aO T ρ H (l.eraseIdx i) (xs.eraseIdx i)
 | [],_,_,h=>by cases h.nil_inv;exact .nil
 | _ :: _,_,0,h=>by obtain⟨x,ys,rfl,_,k⟩:=h.cons_inv;exact k
 | _ :: _,_,i+1,h=>by obtain⟨x,ys,rfl,k1,k⟩:=h.cons_inv;exact .cons k1 (aO.erase i k)
theorem P0:Cy X "list.pop" (Nf T XE uk):=by
 intro pins s σ H x xs v us Q I rx rv ⟨ρ,a,vs,st,sr,va,vb,ho⟩
 unfold uk at ho
 split at ho
 ·rename_i i0 j
  obtain⟨ys,e,ho⟩:=ho.ar
  obtain⟨hj,ho⟩:=ho.a9
  obtain⟨y,ey,ho⟩:=ho.ar
  obtain⟨p,ws,rfl,ea,h1,k⟩:=sr.fw (aB e) va
  obtain⟨z,rfl,k2⟩:=vb.jg
  cases k2.int_inv
  obtain⟨y',SX,ky⟩:=k.get ey
  have hl:=k.length
  obtain⟨its,_,_,hz⟩:=I.list (fB.of h1)
  have TZ:=j_
  have up:Up ρ H ρ (upd H p (.lst (ws.eraseIdx j.toNat))):=sr.qH ea h1 (λ _ z=>nomatch z) (λ _ _ z=>nomatch z)
  refine AK pins s σ H _ _ v us Q I rx rv ⟨p,ws,j,j.toNat,y',rfl,rfl,h1,by omega,by omega,Lp hj.1 (by rw[<-hl];exact hj.2),SX,ho.FD sr ea h1 (k.erase _) (VR.up up ky)⟩
 ·exact ho.elim
section
variable {κ:Type} [DecidableEq κ]
def aV:List (κ × AV)->κ->Option AV
 | [],_=>none
 | p :: r,k=>if p.1=k then some p.2 else aV r k
def eO (kvs:List (κ × AV)) (k:κ)(v:AV):List (κ × AV):=
 if (kvs.any λ kv=>decide (kv.1=k))=true then kvs.map (λ kv=>if kv.1=k then (kv.1,v) else kv) else kvs++[(k,v)]
theorem dY {ρ:List Addr}{H:Hp}(k:κ):∀ {kvs:List (κ × AV)}{ks:List (κ × V)},kvs.map (·.1)=ks.map (·.1)->aO T ρ H (kvs.map (·.2)) (ks.map (·.2))->(∀ v,aV kvs k=some v->∃ x,gR ks k=some x/\VR T ρ H v x)/\(aV kvs k=none->gR ks k=none)
 | [],ks,e,h=>by
  cases ks with
  | nil=>exact⟨(λ v z=>nomatch z),λ _=>rfl⟩
  | cons a r=>cases e
 | p :: r,ks,e,h=>by
  cases ks with
  | nil=>cases e
  | cons q t=>
   rw[List.map_cons,List.map_cons,List.cons.injEq]at e
   rw[List.map_cons,List.map_cons]at h
   obtain⟨x,ys,e2,k1,k2⟩:=h.cons_inv
   rw[List.cons.injEq]at e2
   obtain⟨R5,R4⟩:=dY k e.2 (e2.2 ▸ k2)
   unfold aV
   by_cases hp:p.1=k
   ·rw[if_pos hp,jM (e.1 ▸ hp)]
    refine⟨λ v z=>?_,λ z=>nomatch z⟩
    cases z
    exact⟨q.2,rfl,e2.1 ▸ k1⟩
   ·rw[if_neg hp,jN (λ z=>hp (e.1.trans z))]
    exact⟨R5,R4⟩
theorem sj {ρ:List Addr}{H:Hp}(k:κ){v:AV}{x:V}(kv:VR T ρ H v x){kvs:List (κ × AV)}{ks:List (κ × V)}(e:kvs.map (·.1)=ks.map (·.1)) (h:aO T ρ H (kvs.map (·.2)) (ks.map (·.2))) :
  (eO kvs k v).map (·.1)=(putK ks k x).map (·.1)/\aO T ρ H ((eO kvs k v).map (·.2)) ((putK ks k x).map (·.2)):=by
 have an:∀ {kvs:List (κ × AV)}{ks:List (κ × V)},kvs.map (·.1)=ks.map (·.1)->(kvs.any λ kv=>decide (kv.1=k))=(ks.any λ kv=>decide (kv.1=k)):=by
  intro kvs
  induction kvs with
  | nil=>intro ks e;cases ks with|nil=>rfl|cons a r=>cases e
  | cons p r ih=>
   intro ks e
   cases ks with
   | nil=>cases e
   | cons q t=>
    rw[List.map_cons,List.map_cons,List.cons.injEq]at e
    rw[List.any_cons,List.any_cons,ih e.2,e.1]
 unfold eO putK
 rw[an e]
 by_cases ha:(ks.any λ kv=>decide (kv.1=k))=true
 ·rw[if_pos ha,if_pos ha]
  clear ha an
  induction kvs generalizing ks with
  | nil=>cases ks with|nil=>exact⟨rfl,.nil⟩|cons a r=>cases e
  | cons p r ih=>
   cases ks with
   | nil=>cases e
   | cons q t=>
    rw[List.map_cons,List.map_cons,List.cons.injEq]at e
    rw[List.map_cons,List.map_cons]at h
    obtain⟨y,ys,e2,k1,k2⟩:=h.cons_inv
    rw[List.cons.injEq]at e2
    obtain⟨i1,i2⟩:=ih e.2 (e2.2 ▸ k2)
    simp only[List.map_cons,e.1]
    by_cases hq:q.1=k
    ·rw[if_pos hq,if_pos hq,i1];exact⟨rfl,.cons kv i2⟩
    ·rw[if_neg hq,if_neg hq,i1,e.1];exact⟨rfl,.cons (e2.1 ▸ k1) i2⟩
 ·rw[if_neg ha,if_neg ha,List.map_append,List.map_append,List.map_append,List.map_append,e]
  exact⟨rfl,h.append (.one kv)⟩
end
def fY:AV->Option Key
 | .int i=>some (.inl i)
 | .str x=>some (.inr x)
 | _=>none
theorem fR {ρ:List Addr}{H:Hp}{v:AV}{k:Key}{x:V}(h:fY v=some k)(va:VR T ρ H v x):x=kV k:=by
 cases v<;>try cases h
 ·cases va.int_inv;rfl
 ·cases va.str_inv;rfl
def gA (s:S)(i:Nat):Option (List (Key × AV)):=match s[i]? with
 | some (.dK xs)=>some xs
 | _=>none
theorem fM {s:S}{i:Nat}{xs:List (Key × AV)}(h:gA s i=some xs):s[i]? = some (.dK xs):=by
 unfold gA at h
 split at h
 ·cases h;assumption
 ·cases h
theorem iL {s:S}{i:Nat}{xs:List (Key × AV)}(h:s[i]? = some (.dK xs)):gA s i=some xs:=by unfold gA;rw[h]
def bh:AV->AV->S->R AV
 | .ref i,y,s=>need (gA s i) λ kvs=>need (fY y) λ k=>need (aV kvs k) λ v=>.ok v s
 | _,_,_=>.bad
theorem Er {o i:Expr}{m n:Ev}(hu:X.A.units+1 < cLine)(ho:PE X o (tE T XE m)) (hi:PE X i (tE T XE n)) (hs:Js i:=by exact λ _ _=>rfl):PE X (.Subscript o i pos) (tE T XE (ag bh m n)):=
 PE.imp (DE hu ho hi hs) λ σ H Q ⟨ρ,env,s,hs,he,ho⟩=>step hs he ho λ v s1 ρ1 H1 x _ u1 aT cz aN az=>step aT cz az λ w s2 ρ2 H2 y _ u2 fD lS iE cZ=>by
  have aN:VR T ρ2 H2 v x:=VR.up u2 aN
  cases v with
  | ref i=>
   obtain⟨kvs,e1,cZ⟩:=cZ.ar
   obtain⟨k,e2,cZ⟩:=cZ.ar
   obtain⟨z,e3,cZ⟩:=cZ.ar
   obtain⟨a,ks,rfl,ea,h1,q1,q2⟩:=fD.qy (fM e1) aN
   obtain⟨x',ex,kx⟩:=(dY k q1 q2).1 z e3
   exact⟨a,x',rfl,by rw[fR e2 iE,<-ex];exact jA.k h1,cZ.aS fD kx⟩
  | _=>exact cZ.elim
def jX:AV->AV->S->R AV
 | y,.ref i,s=>need (gA s i) λ kvs=>need (fY y) λ k=>.ok (.bl (aV kvs k).isSome) s
 | _,_,_=>.bad
def pB:AV->AV->S->R AV
 | y,.ref i,s=>need (gA s i) λ kvs=>need (fY y) λ k=>.ok (.bl (!(aV kvs k).isSome)) s
 | _,_,_=>.bad
theorem v_ {op:AV->AV->S->R AV}{b:Bool->Bool}(Bo:∀ y w s,op y w s=(match w with|.ref i=>need (gA s i) λ kvs=>need (fY y) λ k=>.ok (.bl (b (aV kvs k).isSome)) s|_=>.bad)) {m n:Ev}{σ:St}{H:Hp}{Q:VK}(h:tE T XE (ag op m n) σ H Q) :
  tE T XE m σ H λ y H1=>tE T XE n σ H1 λ x H2=>∃ a o,x=.ref a/\jA H2 a y o/\Q (.bl (b o.isSome)) H2:=by
 obtain⟨ρ,env,s,hs,he,ho⟩:=h
 refine step hs he ho λ v s1 ρ1 H1 x _ u1 aT cz aN az=>step aT cz az λ w s2 ρ2 H2 y _ u2 fD lS iE cZ=>?_
 rw[Bo]at cZ
 have iE:VR T ρ2 H2 w y:=iE
 cases w with
 | ref i=>
  obtain⟨kvs,e1,cZ⟩:=cZ.ar
  obtain⟨k,e2,cZ⟩:=cZ.ar
  obtain⟨a,ks,rfl,ea,h1,q1,q2⟩:=fD.qy (fM e1) iE
  have vk:=fR e2 (VR.up u2 aN)
  refine⟨a,gR ks k,rfl,by rw[vk];exact jA.k h1,?_⟩
  have:(gR ks k).isSome=(aV kvs k).isSome:=by
   cases ev:aV kvs k with
   | none=>rw[(dY k q1 q2).2 ev];rfl
   | some z=>obtain⟨x',ex,_⟩:=(dY k q1 q2).1 z ev;rw[ex];rfl
  rw[this]
  exact cZ.aS fD dW
 | _=>exact cZ.elim
theorem Ij {o i:Expr}{m n:Ev}(hu:X.A.units+1 < cLine)(hi:PE X i (tE T XE m)) (ho:PE X o (tE T XE n)) (h1:behindInMarks .In o=false:=by rfl):PE X (.Compare i [.In] [o] pos) (tE T XE (ag jX m n)):=
 PE.imp (Hk (Al hu hi ho) h1) λ σ H Q h=>v_ (b:=id) (λ y w s=>by cases w<;>rfl) h
theorem GZ {o i:Expr}{m n:Ev}(hu:X.A.units+1 < cLine)(hi:PE X i (tE T XE m)) (ho:PE X o (tE T XE n)) (h1:behindInMarks .In o=false:=by rfl):PT X (.Compare i [.In] [o] pos) (jQ T XE (cB (ag jX m n))):=
 PT.imp (zO (Al hu hi ho) h1) λ σ H Q h=>v_ (b:=id) (λ y w s=>by cases w<;>rfl) (zv h)
theorem Dh {o i:Expr}{m n:Ev}(hu:X.A.units+1 < cLine)(hi:PE X i (tE T XE m)) (ho:PE X o (tE T XE n)) (h1:behindInMarks .NotIn o=false:=by rfl):PT X (.Compare i [.NotIn] [o] pos) (jQ T XE (cB (ag pB m n))):=
 PT.imp (zO (yd hu hi ho) h1) λ σ H Q h=>v_ (b:=not) (λ y w s=>by cases w<;>rfl) (zv h)
def putD (v d y:AV)(env:En)(s:S):RS:=match d with
 | .ref i=>match gA s i,fY y with
  | some kvs,some k=>if kvs.length < sizeLine then .nx env (s.set i (.dK (eO kvs k v))) else .bad
  | _,_=>.bad
 | _=>.bad
def jS (d y v:Ev):Ms:=λ env s=>(v env s).dO λ a s1=>(d env s1).dO λ b s2=>(y env s2).dO λ c s3=>putD a b c env s3
theorem DZ {o i value:Expr}{pos':Pos}{m n r:Ev}(hu:X.A.units+1 < cLine)(ho:PE X o (tE T XE m)) (hi:PE X i (tE T XE n)) (hv:PE X value (tE T XE r)) (hs:swapsWith value (some (.Subscript o i pos')) pos.line X.env=pure false:=by rfl):PS X (.Assign [.Subscript o i pos'] value pos) (tS T XE (jS m n r)):=
 PS.imp (Dm hu ho hi hv hs) λ D σ H ⟨ρ,env,s,hs,he,ho⟩=>fu hs he ho λ v s1 ρ1 H1 x _ u1 aT cz aN az=>fu aT cz az λ d s2 ρ2 H2 y _ u2 fD lS iE cZ=>fu fD lS cZ λ c s3 ρ3 H3 z _ u3 nH uN NT jJ=>by
  have iE:VR T ρ3 H3 d y:=VR.up u3 iE
  have aN:VR T ρ3 H3 v x:=VR.up (u2.trans u3) aN
  unfold putD at jJ
  split at jJ
  ·split at jJ
   ·rename_i i kvs k e1 e2
    obtain⟨hl,jJ⟩:=jJ.a9
    obtain⟨a,ks,rfl,ea,h1,q1,q2⟩:=nH.qy (fM e1) iE
    have JC:kvs.length=ks.length:=by have:=congrArg List.length q1;simpa using this
    refine⟨a,_,rfl,by rw[fR e2 NT];exact wt.k h1 (by rw[<-JC];exact hl),?_⟩
    obtain⟨p1,p2⟩:=sj k aN q1 q2
    have up:Up ρ3 H3 ρ3 (upd H3 a (.dK (putK ks k x))):=nH.qH ea h1 (λ _ z=>nomatch z) (λ _ _ z=>nomatch z)
    exact jJ ρ3 _ σ up (nH.set ea up ⟨_,aw,p1,p2.up up⟩) (uN.up up)
   ·exact jJ.elim
  ·exact jJ.elim
def Ar (d y z:AV)(s:S):R AV:=match d with
 | .ref i=>need (gA s i) λ kvs=>need (fY y) λ k=>.ok ((aV kvs k).getD z) s
 | _=>.bad
def pM (d y z:Ev):Ev:=λ env s=>(d env s).bind λ a s1=>need (iX "dict" a s1) λ _=>(y env s1).bind λ b s2=>(z env s2).bind λ c s3=>Ar a b c s3
theorem Bj {ρ:List Addr}{H:Hp}{s:S}{v:AV}{x:V}(h:iX "dict" v s=some ()) (sr:SR T ρ s H)(va:VR T ρ H v x):∃ a,x=.ref a/\NO H a:=by
 have:=pQ h sr va
 cases v with
 | ref i=>
  obtain⟨a,e,rfl⟩:=va.fK
  refine⟨a,rfl,?_⟩
  rcases this with⟨z,_⟩|⟨z,_⟩|⟨_,⟨kvs,z⟩|⟨kvs,z⟩⟩|⟨z,_⟩
  ·exact absurd z (by decide)
  ·exact absurd z (by decide)
  ·exact .inl ⟨kvs,.inl z⟩
  ·exact .inr ⟨kvs,.inl z⟩
  ·exact absurd z (by decide)
 | _=>cases h
theorem El {o e f:Expr}{apos bE:Pos}{m n r:Ev}(hu:X.A.units+1 < cLine)(ho:PE X o (tE T XE m)) (he:PE X e (tE T XE n)) (hf:PE X f (tE T XE r)) (q:M2 X o "get" apos e f bE:=by exact⟨rfl,rfl,rfl,rfl⟩):PE X (.Call (.Attribute o "get" apos) [e,f] [] bE) (tE T XE (pM m n r)):=
 PE.imp (Ah hu ho he hf q) λ σ H Q ⟨ρ,env,s,hs,he,ho⟩=>step hs he ho λ d s1 ρ1 H1 x _ u1 aT cz aN az=>by
  obtain⟨_,e0,az⟩:=az.ar
  obtain⟨a,rfl,hd⟩:=Bj e0 aT aN
  refine⟨a,rfl,hd,step aT cz az λ w s2 ρ2 H2 y _ u2 fD lS iE cZ=>step fD lS cZ λ z s3 ρ3 H3 z' _ u3 nH uN NT jJ=>?_⟩
  have aN:VR T ρ3 H3 d (.ref a):=VR.up (u2.trans u3) aN
  cases d with
  | ref i=>
   obtain⟨kvs,e1,jJ⟩:=jJ.ar
   obtain⟨k,e2,jJ⟩:=jJ.ar
   obtain⟨b,ks,eb,ea,h1,q1,q2⟩:=nH.qy (fM e1) aN
   cases eb
   refine⟨gR ks k,by rw[fR e2 (VR.up u3 iE)];exact jA.k h1,?_⟩
   cases ev:aV kvs k with
   | none=>rw[(dY k q1 q2).2 ev];rw[ev]at jJ;exact jJ.aS nH NT
   | some v=>obtain⟨x',ex,kx⟩:=(dY k q1 q2).1 v ev;rw[ex];rw[ev]at jJ;exact jJ.aS nH kx
  | _=>exact jJ.elim
def vf:Ev:=λ _ s=>.ok (.ref s.length) (s++[.dK []])
theorem Le:PE X (.Dict [] [] pos) (tE T XE vf):=
 PE.imp Ag λ σ H Q ⟨ρ,env,s,hs,he,ho⟩ p hp=>ho.alloc hs hp ⟨[],aw,rfl,.nil⟩
def yN:List (Ev × Ev)->En->S->R (List (AV × AV))
 | [],_,s=>.ok [] s
 | (a,b) :: r,env,s=>(a env s).bind λ v s1=>(b env s1).bind λ w s2=>(yN r env s2).bind λ l s3=>.ok ((v,w) :: l) s3
def pO:List (AV × AV)->Option (List (Key × AV))
 | []=>some []
 | (a,b) :: r=>(fY a).bind λ k=>(pO r).map ((k,b) :: ·)
def sG (kvs more:List (Key × AV)):List (Key × AV):=more.foldl (λ acc kv=>eO acc kv.1 kv.2) kvs
def jC (l:List (Ev × Ev)):Ev:=λ env s=>(yN l env s).bind λ ps s1=>need (pO ps) λ kvs=>if kvs.length<=15 then .ok (.ref s1.length) (s1++[.dK (sG [] kvs)]) else .bad
def Rc (T:Tx)(ρ:List Addr)(H:Hp)(ps:List (AV × AV)) (xs:List (V × V)):Prop:=aO T ρ H (ps.map (·.1)) (xs.map (·.1))/\aO T ρ H (ps.map (·.2)) (xs.map (·.2))
theorem bind_assoc {α β γ:Type}(r:R α)(f:α->S->R β)(g:β->S->R γ):(r.bind f).bind g=r.bind λ a s=>(f a s).bind g:=by cases r<;>rfl
theorem ui {α β:Type}{rl:Rl α β}{Q:β->Hp->Prop}{env:En}{σ:St}:∀ (l:List (Ev × Ev)) {ρ:List Addr}{s:S}{H:Hp}{k:List (AV × AV)->S->R α}{F:List (V × V)->Hp->Prop},SR T ρ s H->ER T ρ H env σ->Out T XE rl ρ H ((yN l env s).bind k) Q->
  (∀ ps s1 ρ1 H1 xs,yN l env s=.ok ps s1->Up ρ H ρ1 H1->SR T ρ1 s1 H1->ER T ρ1 H1 env σ->Rc T ρ1 H1 ps xs->F xs H1)->rS (l.map λ p=>(tE T XE p.1,tE T XE p.2)) σ H F
 | [],ρ,s,H,k,F,hs,he,ho,hk=>hk [] s ρ H [] rfl .refl hs he ⟨.nil,.nil⟩
 | (a,b) :: r,ρ,s,H,k,F,hs,he,ho,hk=>by
  have e:(yN ((a,b) :: r) env s).bind k=(a env s).bind λ v s1=>(b env s1).bind λ w s2=>(yN r env s2).bind λ l s3=>k ((v,w) :: l) s3:=by
   show((a env s).bind λ v s1=>(b env s1).bind λ w s2=>(yN r env s2).bind λ l s3=>.ok ((v,w) :: l) s3).bind k=_
   rw[bind_assoc]
   congr 1;funext v s1
   rw[bind_assoc]
   congr 1;funext w s2
   rw[bind_assoc]
   rfl
  rw[e]at ho
  refine step hs he ho λ v s1 ρ1 H1 x q1 u1 aT cz aN az=>step aT cz az λ w s2 ρ2 H2 y q2 u2 fD lS iE cZ=>?_
  refine ui r fD lS cZ λ ps s3 ρ3 H3 xs q3 u3 nH uN vp=>hk ((v,w) :: ps) s3 ρ3 H3 _ (by have q1:a env s=.ok v s1:=q1;have q2:b env s1=.ok w s2:=q2;show((a env s).bind λ v s1=>(b env s1).bind λ w s2=>(yN r env s2).bind λ l s3=>.ok ((v,w) :: l) s3)=_;rw[q1,ay,q2,ay,q3,ay]) ((u1.trans u2).trans u3) nH uN ⟨?_,?_⟩
  ·exact .cons (VR.up (u2.trans u3) aN) vp.1
  ·exact .cons (VR.up u3 iE) vp.2
theorem ra {ρ:List Addr}{H:Hp}:∀ {ps:List (AV × AV)}{kvs:List (Key × AV)}{xs:List (V × V)},pO ps=some kvs->Rc T ρ H ps xs->∃ ks:List (Key × V),xs=ks.map (λ kv=>(kV kv.1,kv.2))/\kvs.map (·.1)=ks.map (·.1)/\aO T ρ H (kvs.map (·.2)) (ks.map (·.2))
 | [],kvs,xs,h,vp=>by
  cases h
  have:=vp.1.nil_inv
  cases xs with
  | nil=>exact⟨[],rfl,rfl,.nil⟩
  | cons a r=>cases this
 | (a,b) :: r,kvs,xs,h,vp=>by
  have h:(fY a).bind (λ k=>(pO r).map ((k,b) :: ·))=some kvs:=h
  cases e1:fY a with
  | none=>rw[e1]at h;cases h
  | some k=>
   cases e2:pO r with
   | none=>rw[e1,e2]at h;cases h
   | some q=>
    rw[e1,e2]at h
    cases h
    cases xs with
    | nil=>obtain⟨_,_,z,_⟩:=vp.1.cons_inv;cases z
    | cons p xs=>
     obtain⟨x1,y1,z1,k1,k2⟩:=vp.1.cons_inv
     obtain⟨x2,y2,z2,k3,k4⟩:=vp.2.cons_inv
     rw[List.map_cons,List.cons.injEq]at z1 z2
     obtain⟨ks,rfl,q1,q2⟩:=ra e2 ⟨z1.2 ▸ k2,z2.2 ▸ k4⟩
     refine⟨(k,p.2) :: ks,?_,by rw[List.map_cons,List.map_cons,q1],.cons (z2.1 ▸ k3) q2⟩
     rw[List.map_cons,<-fR e1 (z1.1 ▸ k1)]
theorem qX {ρ:List Addr}{H:Hp}:∀ {more:List (Key × AV)}{mo:List (Key × V)}{kvs:List (Key × AV)}{ks:List (Key × V)},more.map (·.1)=mo.map (·.1)->aO T ρ H (more.map (·.2)) (mo.map (·.2))->kvs.map (·.1)=ks.map (·.1)->aO T ρ H (kvs.map (·.2)) (ks.map (·.2))->
  (sG kvs more).map (·.1)=(fG ks mo).map (·.1)/\aO T ρ H ((sG kvs more).map (·.2)) ((fG ks mo).map (·.2))
 | [],mo,kvs,ks,e,h,e2,h2=>by
  cases mo with
  | nil=>exact⟨e2,h2⟩
  | cons a r=>cases e
 | p :: r,mo,kvs,ks,e,h,e2,h2=>by
  cases mo with
  | nil=>cases e
  | cons q t=>
   rw[List.map_cons,List.map_cons,List.cons.injEq]at e
   rw[List.map_cons,List.map_cons]at h
   obtain⟨y,ys,z,k1,k2⟩:=h.cons_inv
   rw[List.cons.injEq]at z
   obtain⟨p1,p2⟩:=sj p.1 (z.1 ▸ k1) e2 h2
   have:=qX (kvs:=eO kvs p.1 p.2) (ks:=putK ks q.1 q.2) e.2 (z.2 ▸ k2) (by rw[<-e.1];exact p1) (by rw[<-e.1];exact p2)
   exact this
theorem Ep {keys:List (Option Expr)}{values:List Expr}{l:List (Ev × Ev)}(h:Gf X pos keys values (l.map λ p=>(tE T XE p.1,tE T XE p.2))) (Bu:keys.all (·.isSome)=true:=by rfl) (hl:keys.length=values.length:=by rfl)(h0:keys≠[]:=by decide)(JH:keys.length<=15:=by decide):PE X (.Dict keys values pos) (tE T XE (jC l)):=
 PE.imp (DD h Bu hl h0 JH) λ σ H Q ⟨ρ,env,s,hs,he,ho⟩ p hp=>by
  have u0:=hs.eK (o:=.dK []) hp
  have n0:=hs.out hp
  refine ui l (hs.new hp) (he.up u0) (Out.up u0 ho) λ ps s1 ρ1 H1 xs q0 u1 aT cz vp=>?_
  unfold jC at ho
  rw[q0,ay]at ho
  obtain⟨kvs,e1,ho⟩:=ho.ar
  obtain⟨hl,ho⟩:=ho.a9
  obtain⟨ks,rfl,q1,q2⟩:=ra e1 vp
  have hd:=u1.fr p _ aw n0
  have JC:kvs.length=ks.length:=by have:=congrArg List.length q1;simpa using this
  refine⟨hd.1,ks,rfl,by rw[<-JC];exact hl,?_⟩
  obtain⟨m1,m2⟩:=qX q1 q2 (kvs:=[]) (ks:=[]) rfl .nil
  have g:Gr ρ1 H1 (ρ1++[p]) (upd H1 p (.dK (fG [] ks))):=⟨List.prefix_append _ _,λ b ys e=>by rw[ah (pI e hd.1 (by intro z;cases z))];exact e,λ b o v e=>by rw[ah (pI e hd.1 (by intro z;cases z))];exact e⟩
  have g1:Gr ρ1 H1 ρ1 (upd H1 p (.dK (fG [] ks))):=⟨List.prefix_rfl,g.jE,g.iJ⟩
  have s2:SR T ρ1 s1 (upd H1 p (.dK (fG [] ks))):=aT.up g1 λ a ha=>ah λ z=>hd.2 (z ▸ ha)
  have s3:SR T (ρ1++[p]) (s1++[.dK (sG [] kvs)]) (upd H1 p (.dK (fG [] ks))):=s2.add hd.2 ⟨_,aw,m1,m2.gr g⟩
  have u2:Up ρ H (ρ1++[p]) (upd H1 p (.dK (fG [] ks))):=((u0.trans u1).mod hp hd.2).add hp
  exact ho _ _ _ u2 s3 (lu (T:=T) (H:=upd H1 p (.dK (fG [] ks))) (by rw[List.getElem?_append_right (by rw[aT.len];exact Nat.le_refl _),aT.len,Nat.sub_self];rfl))
theorem D5:Gf X pos [] [] (([]:List (Ev × Ev)).map λ p=>(tE T XE p.1,tE T XE p.2)):=Dn
theorem AR {k v:Expr}{ks:List (Option Expr)}{vs:List Expr}{a b:Ev}{l:List (Ev × Ev)}(hk:PE X k (tE T XE a)) (hv:PE X v (tE T XE b)) (hr:Gf X pos ks vs (l.map λ p=>(tE T XE p.1,tE T XE p.2))):Gf X pos (some k :: ks) (v :: vs) (((a,b) :: l).map λ p=>(tE T XE p.1,tE T XE p.2)):=zU hk hv hr
def kq (o i:Ev):Mt:=λ v env s=>(o env s).dO λ a s1=>(i env s1).dO λ b s2=>match a,b with
 | .ref k,.int j=>match ak s2 k with
  | some xs=>match w6 xs.length j with
   | some n=>.nx env (s2.set k (.lst (xs.set n v)))
   | none=>.bad
  | none=>.bad
 | _,_=>.bad
theorem Ec {o i:Expr}{m n:Ev}(ho:PE X o (tE T XE m)) (hi:PE X i (tE T XE n))
  (ha:∀ v,assign (.Subscript o i pos) X.env v=(do
   let ov <-holding [v] (eval o X.env)
   let iv <-holding [v,ov] (eval i X.env)
   standAt pos
   holding [v,ov,iv] (setItem ov iv v)
   release [v,ov,iv] []):=by intro _;rfl):PG X (.Subscript o i pos) (tT T XE (kq m n)):=
 PG.imp (z_ ho hi set_list ha) λ x σ H Q ⟨ρ,env,s,v,hs,he,vr,ho⟩=>by
  refine fu hs he ho λ a s1 ρ1 H1 y _ u1 aT cz aN az=>fu aT cz az λ b s2 ρ2 H2 z _ u2 fD lS iE cZ=>?_
  have aN:VR T ρ2 H2 a y:=VR.up u2 aN
  have iE:VR T ρ2 H2 b z:=iE
  have vr:VR T ρ2 H2 v x:=VR.up (u1.trans u2) vr
  split at cZ
  ·rename_i k j
   split at cZ
   ·rename_i xs e1
    split at cZ
    ·rename_i n e2
     obtain⟨p,ws,rfl,ea,h1,k1⟩:=fD.fw (aB e1) aN
     cases iE.int_inv
     have up:Up ρ2 H2 ρ2 (upd H2 p (.lst (ws.set n x))):=fD.qH ea h1 (λ _ z=>nomatch z) (λ _ _ z=>nomatch z)
     exact⟨p,ws,_,n,rfl,rfl,h1,by rw[<-k1.length];exact e2,cZ ρ2 _ σ up (fD.set ea up (OR.lst aw ((k1.set n vr).up up))) (lS.up up)⟩
    ·exact cZ.elim
   ·exact cZ.elim
  ·exact cZ.elim
theorem DM {o i:Ev}:kJ (kq o i):=λ v env s=>by
 unfold kq
 cases o env s with
 | bad=>exact .inr (.inr rfl)
 | ex c s1=>exact .inr (.inl ⟨_,_,rfl⟩)
 | ok a s1=>
  simp only[i9]
  cases i env s1 with
  | bad=>exact .inr (.inr rfl)
  | ex c s1=>exact .inr (.inl ⟨_,_,rfl⟩)
  | ok b s2=>
   simp only[i9]
   split
   ·split
    ·split
     ·exact .inl ⟨_,_,rfl⟩
     ·exact .inr (.inr rfl)
    ·exact .inr (.inr rfl)
   ·exact .inr (.inr rfl)
def kr:AV->Bool
 | .aC=>true
 | .bl _=>true
 | .int _=>true
 | .str _=>true
 | _=>false
def toV:AV->V
 | .bl b=>.bl b
 | .int b=>.int b
 | .str b=>.str b
 | _=>.aC
theorem toV_eq {ρ:List Addr}{H:Hp}{v:AV}{x:V}(h:kr v=true)(k:VR T ρ H v x):x=toV v:=by
 cases v with
 | aC=>exact k.gH
 | bl b=>exact k.hJ
 | int b=>exact k.int_inv
 | str b=>exact k.str_inv
 | _=>cases h
theorem toVs_eq {ρ:List Addr}{H:Hp}:∀ {l:List AV}{xs:List V},l.all kr=true->aO T ρ H l xs->xs=l.map toV
 | [],_,_,k=>k.nil_inv
 | v :: r,_,h,k=>by
  obtain⟨x,ys,rfl,k1,k2⟩:=k.cons_inv
  rw[List.all_cons,Bool.and_eq_true]at h
  rw[toV_eq h.1 k1,toVs_eq h.2 k2];rfl
theorem mK:∀ v:AV,mL (toV v)=true:=λ v=>by cases v<;>rfl
def Nm (v:AV)(xs:List AV):Bool:=Nl (toV v) (xs.map toV)
def qq (v w:AV)(s:S):R AV:=need (items w s) λ xs=>if kr v=true/\xs.all kr=true then .ok (.bl (Nm v xs)) s else .bad
def qR (v w:AV)(s:S):R AV:=need (items w s) λ xs=>if kr v=true/\xs.all kr=true then .ok (.bl (!Nm v xs)) s else .bad
theorem OG (hK:X.K=T.K):iC X (compareOp .In) (qo T XE qq):=by
 intro pins s σ H x y v u Q I rx ry ⟨ρ,a,b,st,sr,va,vb,ho⟩
 obtain⟨xs,e,ho⟩:=ho.ar
 obtain⟨⟨f1,f2⟩,ho⟩:=ho.a9
 obtain⟨p,ws,rfl,h1,k⟩:=kN e sr vb
 have e1:=toV_eq f1 va
 have e2:=toVs_eq f2 k
 subst e1 e2
 exact yf pins s σ H _ _ v u Q I rx ry ⟨p,_,rfl,by rw[hK];exact h1,mK a,by simp[mK],ho.aS sr dW⟩
theorem KL (hK:X.K=T.K):iC X (compareOp .NotIn) (qo T XE qR):=by
 intro pins s σ H x y v u Q I rx ry ⟨ρ,a,b,st,sr,va,vb,ho⟩
 obtain⟨xs,e,ho⟩:=ho.ar
 obtain⟨⟨f1,f2⟩,ho⟩:=ho.a9
 obtain⟨p,ws,rfl,h1,k⟩:=kN e sr vb
 have e1:=toV_eq f1 va
 have e2:=toVs_eq f2 k
 subst e1 e2
 exact su pins s σ H _ _ v u Q I rx ry ⟨p,_,rfl,by rw[hK];exact h1,mK a,by simp[mK],ho.aS sr dW⟩
end
end Mm
namespace Mm
open PySem L2
section
variable {T:Tx}{XE:gJ}{X:Cx}{pos:Pos}
structure Cz (T:Tx)(mg:Str->Option Value)(x:Str)(a:AV):Prop where
 ex:∃ v u,mg x=some u/\RelV v u/\∀ ρ H,VR T ρ H a v
theorem H_ {x:Str}{a:AV}(h:Cz T X.mg x a)(hg:Gl X x:=by rfl)(hd:(x == ("__debug__":Str))=false:=by decide):PE X (.Name x pos) (tE T XE (mc a)):=by
 obtain⟨v,u,h1,h2,h3⟩:=h.ex
 exact Ek hg h1 h2 h3 hd
theorem LA {k:Nat}{A:Around}(r:df k A):A.units+30 < cLine:=by have:=r.un;omega
noncomputable def L4 (m:Eb):Eb:=λ env s=>(m env s).bind λ v s1=>open Classical in if s1.take s.length=s then .ok v s else .bad
theorem Km {e:Expr}{m:Eb}(h:PT X e (jQ T XE m)):PT X e (jQ T XE (L4 m)):=
 PT.imp h λ σ H Q ⟨ρ,env,s,hs,he,ho⟩=>by
  refine⟨ρ,env,s,hs,he,?_⟩
  unfold L4 at ho
  cases e:m env s with
  | bad=>rw[e]at ho;exact ho
  | ex c s1=>rw[e]at ho;exact ho
  | ok v s1=>
   rw[e]at ho
   obtain⟨e1,ho⟩:=ho.a9
   intro ρ1 H1 x u sr vr
   have:=sr.cut u.pre hs.len (by rw[e1];exact hs.closed)
   rw[e1]at this
   exact ho ρ H1 x u.cut this vr
def Qp {α:Type}(T:Tx)(XE:gJ)(rl:Rl α V)(op:AV->List AV->S->R α):V->List V->Hp->VK->Prop:=λ x xs H Q=>∃ ρ v vs s,SR T ρ s H/\VR T ρ H v x/\aO T ρ H vs xs/\Out T XE rl ρ H (op v vs s) Q
def By {α:Type}(n:String)(op:AV->List AV->S->R α)(o:Ev)(r:eG):En->S->R α:=λ env s=>(o env s).bind λ v s1=>need (iX n v s1) λ _=>(r env s1).bind λ vs s2=>op v vs s2
theorem HR {α:Type}{rl:Rl α V}{n id:String}{name:Str}{apos bE:Pos}{o e:Expr}{es:List Expr}{op:AV->List AV->S->R α}{m:Ev}{r:eG}(hK:X.K=T.K)(pa:PlainAttrs n)(slot:Slot n name id)(EL:typeOf (.builtin id)=pure (.type "method_descriptor")) (hm:Cy X id (Qp T XE rl op)) (ho:PE X o (tE T XE m)) (ha:PA X (e :: es) (tP T XE r))
  (kj:attributeBase o name X.env (eval o X.env)=eval o X.env:=by rfl)
  (vX:((backTo bE (starEach (e :: es) X.env)).all (λ x=>!x.1) && (backToKw bE (keywordEach [] X.env)).all (λ x=>x.1.isSome)
   && decide ((e :: es).length+([]:List Keyword).length+(if ([]:List Keyword).isEmpty then 0 else 1) < 30))=true:=by rfl)
  (ki:(apos.endLine == bE.line)=true:=by rfl) (hs:starEach (e :: es) X.env=(false,eval e X.env) :: starEach es X.env:=by rfl) (lM:(backTo bE (starEach es X.env)).any (·.1)=false:=by rfl) :
  PE X (.Call (.Attribute o name apos) (e :: es) [] bE) (tG T XE rl (By n op m r)):=
 PE.imp (Ak hK pa slot EL hm ho ha kj vX ki hs lM) λ σ H Q ⟨ρ,env,s,hs,he,ho⟩=>by
  refine step hs he ho λ v s1 ρ1 H1 x _ u1 aT cz aN az=>?_
  obtain⟨_,e,az⟩:=az.ar
  exact⟨pQ e aT aN,step aT cz az λ vs s2 ρ2 H2 xs _ u2 fD lS iE cZ=>⟨ρ2,v,vs,s2,fD,VR.up u2 aN,iE,cZ⟩⟩
open PySem.Builtin.Str in
def mf:AV->List AV->S->R (List AV)
 | .str t,[.str sep],s=>if (decide (t.length < sep.length) || decide (strKind t < strKind sep))=false/\(sep.length == 0)=false/\(occurrences t sep 0 t.length (t.length+1)).isEmpty=false/\t.length<=1000/\(partsBetween t (occurrences t sep 0 t.length (t.length+1)) sep.length).length<=1000
   then .ok ((partsBetween t (occurrences t sep 0 t.length (t.length+1)) sep.length).map AV.str) s else .bad
 | _,_,_=>.bad
theorem Jk:Cy X "str.split" (Qp T XE (rL T) mf):=by
 intro pins s σ H x xs v us Q I rx rv ⟨ρ,a,vs,st,sr,va,vb,ho⟩
 unfold mf at ho
 split at ho
 ·obtain⟨⟨c1,c2,c3,c4,c5⟩,ho⟩:=ho.a9
  cases va.str_inv
  obtain⟨y,rfl,k2⟩:=vb.jg
  cases k2.str_inv
  exact AJ pins s σ H _ _ v us Q I rx rv ⟨_,_,rfl,rfl,c1,c2,c3,c4,c5,λ l hl=>ho.lst sr hl (aO.map (λ a=>gQ) _)⟩
 ·exact ho.elim
def oO (xs ys:List AV):List AV:=(xs.zip ys).map λ p=>AV.tup [p.1,p.2]
def rD (xs:List AV):List AV:=(List.range xs.length).zip xs |>.map λ p=>AV.tup [.int (p.1:Int),p.2]
def qm (c:Bool)(v:AV)(s:S):Option (List AV × Gd):=match v with
 | .tup xs=>if c=true then some (xs,[]) else none
 | .sq xs=>if c=true then none else some (xs,[])
 | .ref i=>if c=true then none else (ak s i).map λ xs=>(xs,[(i,xs)])
 | _=>none
theorem pd {c:Bool}{ρ:List Addr}{H:Hp}{s:S}{v:AV}{xs:List AV}{gs:Gd}{x:V}(h:qm c v s=some (xs,gs)) (sr:SR T ρ s H)(va:VR T ρ H v x):∃ a,x=.ref a/\(∃ vs,tM c T.K H a vs)/\∀ ρ' s' H',Up ρ H ρ' H'->SR T ρ' s' H'->sR gs s'->∃ vs,tM c T.K H' a vs/\aO T ρ' H' xs vs:=by
 cases v with
 | tup ys=>
  have h:(if c=true then some (ys,[]) else none)=some (xs,gs):=h
  split at h
  ·rename_i hc
   cases h
   obtain⟨a,vs,rfl,h1,k⟩:=va.dg
   refine⟨a,rfl,⟨vs,by unfold tM;rw[if_pos hc];exact h1⟩,λ ρ' s' H' u jd _=>⟨vs,by unfold tM;rw[if_pos hc];exact u.Kb h1,k.up u⟩⟩
  ·cases h
 | sq ys=>
  have h:(if c=true then none else some (ys,[]))=some (xs,gs):=h
  split at h
  ·cases h
  ·rename_i hc
   cases h
   obtain⟨a,vs,rfl,h1,k⟩:=va.fW
   refine⟨a,rfl,⟨vs,by unfold tM;rw[if_neg hc];exact h1.xX⟩,λ ρ' s' H' u jd _=>⟨vs,by unfold tM;rw[if_neg hc];exact(u.Od h1).xX,k.up u⟩⟩
 | ref i=>
  have h:(if c=true then none else (ak s i).map λ xs=>(xs,[(i,xs)]))=some (xs,gs):=h
  split at h
  ·cases h
  ·rename_i hc
   cases e:ak s i with
   | none=>rw[e]at h;cases h
   | some ys=>
    rw[e]at h
    cases h
    obtain⟨a,vs,rfl,ea,h1,k⟩:=sr.fw (aB e) va
    refine⟨a,rfl,⟨vs,by unfold tM;rw[if_neg hc];exact fB.of h1⟩,λ ρ' s' H' u jd g=>?_⟩
    obtain⟨b,ws,eb,_,h2,k2⟩:=jd.fw (aB ((xj i _ s').mp g)) (VR.up u va)
    cases eb
    exact⟨ws,by unfold tM;rw[if_neg hc];exact fB.of h2,k2⟩
 | _=>cases h
def xO (v w:AV)(s:S):Option (List AV × Gd):=
 match qm true v s,qm true w s with
 | some (xs,g),some (ys,h)=>some (oO xs ys,g++h)
 | _,_=>match qm false v s,qm false w s with
  | some (xs,g),some (ys,h)=>some (oO xs ys,g++h)
  | _,_=>none
theorem yT {v w:AV}{s:S}{r:List AV × Gd}(h:xO v w s=some r):∃ c xs g ys h,qm c v s=some (xs,g)/\qm c w s=some (ys,h)/\r=(oO xs ys,g++h):=by
 unfold xO at h
 split at h
 ·rename_i xs g ys h' e1 e2
  cases h
  exact⟨true,xs,g,ys,h',e1,e2,rfl⟩
 ·split at h
  ·rename_i xs g ys h' e1 e2
   cases h
   exact⟨false,xs,g,ys,h',e1,e2,rfl⟩
  ·cases h
def zA (a b:Ev):Src:=λ env s=>(a env s).bind λ v s1=>(b env s1).bind λ w s2=>need (xO v w s2) λ r=>.ok r s2
theorem EZ {g h:Gd}{s:S}(k:sR (g++h) s):sR g s/\sR h s:=⟨λ p hp=>k p (List.mem_append_left _ hp),λ p hp=>k p (List.mem_append_right _ hp)⟩
theorem HP {es:List Expr}{kk:Nat}{mV:Pos}{e1 e2:Expr}{p:Pos}{a b:Ev}(hK:X.K=T.K)(hm:X.mg "zip"=none)(h1:PE X e1 (tE T XE a)) (h2:PE X e2 (tE T XE b)) (hg:Gl X "zip":=by rfl)
  (hs:starEach [e1,e2] X.env=(false,eval e1 X.env) :: starEach [e2] X.env:=by rfl) (JA:starEach [e2] X.env=[(false,eval e2 X.env)]:=by rfl) (fj:(backTo pos (starEach [e2] X.env)).any (·.1)=false:=by rfl) :
  PI X (.Tuple es kk mV) (.Call (.Name "zip" p) [e1,e2] [] pos) (tW T XE (zA a b)):=
 PI.imp (G9 hg hm h1 h2 hs JA fj) λ σ H R ⟨ρ,env,s,hs,he,ho⟩=>step hs he ho λ v s1 ρ1 H1 x _ u1 aT cz aN az=>step aT cz az λ w s2 ρ2 H2 y _ u2 fD lS iE cZ=>by
  obtain⟨r,e,cZ⟩:=cZ.ar
  obtain⟨c,xs,g,ys,h,q1,q2,rfl⟩:=yT e
  obtain⟨a1,rfl,x1,w1⟩:=pd q1 fD (VR.up u2 aN)
  obtain⟨a2,rfl,x2,w2⟩:=pd q2 fD iE
  refine⟨c,a1,a2,rfl,by rw[hK];exact x1,by rw[hK];exact x2,cZ ρ2 H2 _ .refl fD ⟨λ ρ' s' H' u' jd gk=>?_⟩⟩
  obtain⟨g1,g2⟩:=EZ gk
  obtain⟨vs,k1,k2⟩:=w1 ρ' s' H' u' jd g1
  obtain⟨ws,k3,k4⟩:=w2 ρ' s' H' u' jd g2
  rw[hK]
  have vg:=k2.length
  have sN:=k4.length
  refine⟨λ j z ez=>?_,⟨vs,ws,k1,k3,?_⟩⟩
  ·have hj:j < xs.length/\j < ys.length:=by
    have:=(List.getElem?_eq_some_iff.mp ez).1
    simp only[oO,List.length_map,List.length_zip]at this
    omega
   have PX:z=.tup [xs[j],ys[j]]:=by
    have q:(oO xs ys)[j]? = some (.tup [xs[j],ys[j]]):=by
     simp[oO,List.getElem?_zip_eq_some,hj.1,hj.2]
    rw[q]at ez
    exact(Option.some.inj ez).symm
   subst PX
   obtain⟨x3,e3,v3⟩:=k2.get (List.getElem?_eq_getElem hj.1)
   obtain⟨x4,e4,v4⟩:=k4.get (List.getElem?_eq_getElem hj.2)
   refine⟨⟨vs,ws,x3,x4,k1,k3,e3,e4⟩,λ q H'' ⟨Tt,y1,y2,eq,hT,eH,hy⟩=>?_⟩
   obtain⟨f1,f2⟩:=hy vs ws k1 k3
   rw[e3]at f1;rw[e4]at f2
   cases f1;cases f2
   subst eq eH
   exact⟨jd.eK hT,jd.new hT,jL (hW.of aw) (aO.up (jd.eK hT) (.cons v3 (.one v4)))⟩
  ·rw[<-vg,<-sN]
   simp only[oO,List.length_map,List.length_zip]
   omega
end
end Mm
namespace Mm
open PySem PySem.W PyProof.Rows
def aG {α:Type}(lt:Nat->Nat->Bool):KasT α->α
 | .ret a=>a
 | .ask i j k=>aG lt (k (lt i j))
theorem gL {α β:Type}(lt:Nat->Nat->Bool)(f:α->KasT β):∀ t:KasT α,aG lt (t.bind f)=aG lt (f (aG lt t))
 | .ret a=>rfl
 | .ask i j k=>gL lt f (k (lt i j))
section
variable {O:KeyOrd}{key:Nat->O.α}
def fi (key:Nat->O.α)(p:Array Nat)(i:Nat):O.α:=key (p.getD i 0)
abbrev bO (O:KeyOrd)(key:Nat->O.α):Nat->Nat->Bool:=λ i j=>O.blt (key i) (key j)
def tU (key:Nat->O.α)(p:Array Nat)(k:Nat):Prop:=∀ i j,i<=j->j < k->O.kle (fi key p i) (fi key p j)
def Gg (key:Nat->O.α)(p:Array Nat)(k:Nat):Prop:=∀ i j,i<=j->j < k->O.kle (fi key p j) (fi key p i)
theorem CU (p:Array Nat):tU key p 1:=λ i j h1 h2=>by
 have:i=j:=by omega
 subst this;exact KeyOrd.kle_refl _
theorem zy {p:Array Nat}{n:Nat}(h1:1<=n)(h:tU key p n)(k:O.kle (fi key p (n - 1)) (fi key p n)):tU key p (n+1):=λ i j h2 h3=>by
 by_cases hj:j < n
 ·exact h i j h2 hj
 ·have e:j=n:=by omega
  subst e
  by_cases hi:i=j
  ·subst hi;exact KeyOrd.kle_refl _
  ·exact KeyOrd.kle_trans (h i (j - 1) (by omega) (by omega)) k
theorem mw {p:Array Nat}{n:Nat}(h1:1<=n)(h:Gg key p n)(k:O.kle (fi key p n) (fi key p (n - 1))):Gg key p (n+1):=λ i j h2 h3=>by
 by_cases hj:j < n
 ·exact h i j h2 hj
 ·have e:j=n:=by omega
  subst e
  by_cases hi:i=j
  ·subst hi;exact KeyOrd.kle_refl _
  ·exact KeyOrd.kle_trans k (h i (j - 1) (by omega) (by omega))
theorem mI {p q:Array Nat}{i j:Nat}(h:p[i]? = q[j]?):p.getD i 0=q.getD j 0:=by
 rw[Array.getD_eq_getD_getElem?,Array.getD_eq_getD_getElem?,h]
theorem kh {p:Array Nat}{i j:Nat}(hj:j<=p.size)(k:Nat):fi key (kas_rev p i j) k=if i<=k/\k < j then fi key p (i+j - 1 - k) else fi key p k:=by
 unfold fi kas_rev
 have h:=getElem?_mirror_all (xs:=p) (i:=i) (j:=j) hj k
 split
 ·rename_i hk
  rw[if_pos hk]at h
  rw[mI h]
 ·rename_i hk
  rw[if_neg hk]at h
  rw[mI h]
theorem wd {p:Array Nat}:∀ (f n:Nat),1<=n->tU key p n->tU key p (aG (bO O key) (kas_asc p f n))/\n<=aG (bO O key) (kas_asc p f n)/\aG (bO O key) (kas_asc p f n)<=n+f/\
  (aG (bO O key) (kas_asc p f n) < n+f->O.klt (fi key p (aG (bO O key) (kas_asc p f n))) (fi key p (aG (bO O key) (kas_asc p f n) - 1)))
 | 0,n,h1,h=>⟨h,Nat.le_refl _,Nat.le_refl _,λ z=>absurd z (Nat.lt_irrefl _)⟩
 | f+1,n,h1,h=>by
  show tU key p (aG (bO O key) (if bO O key (p.getD n 0) (p.getD (n - 1) 0)=true then .ret n else kas_asc p f (n+1)))/\_
  by_cases c:bO O key (p.getD n 0) (p.getD (n - 1) 0)=true
  ·have e:aG (bO O key) (kas_asc p (f+1) n)=n:=by
    show aG (bO O key) (if bO O key (p.getD n 0) (p.getD (n - 1) 0)=true then .ret n else kas_asc p f (n+1))=n
    rw[if_pos c];rfl
   rw[e,if_pos c]
   exact⟨h,Nat.le_refl _,by omega,λ _=>c⟩
  ·have e:aG (bO O key) (kas_asc p (f+1) n)=aG (bO O key) (kas_asc p f (n+1)):=by
    show aG (bO O key) (if bO O key (p.getD n 0) (p.getD (n - 1) 0)=true then .ret n else kas_asc p f (n+1))=_
    rw[if_neg c]
   rw[e,if_neg c]
   obtain⟨a1,a2,a3,a4⟩:=wd f (n+1) (by omega) (zy h1 h (KeyOrd.kle_of_not_klt c))
   exact⟨a1,by omega,by omega,λ z=>a4 (by omega)⟩
def Alike (key:Nat->O.α)(p:Array Nat)(n q:Nat):Prop:=q+1<=n/\∀ i,n - (q+1)<=i->i < n->fi key p i=fi key p (n - 1)
theorem qO {p:Array Nat}{n q:Nat}(hn:n<=p.size)(h:Alike key p n q)(k:Nat):fi key (kas_rev p (n - (q+1)) n) k=fi key p k:=by
 rw[kh hn]
 split
 ·rename_i hk
  rw[h.2 _ (by omega) (by omega),h.2 k hk.1 hk.2]
 ·rfl
theorem qU {p p':Array Nat}{n:Nat}(e:∀ k,fi key p' k=fi key p k)(h:Gg key p n):Gg key p' n:=λ i j h1 h2=>by rw[e,e];exact h i j h1 h2
theorem oI:∀ (f:Nat)(p:Array Nat)(n q:Nat),n+f<=p.size->1<=n->Gg key p n->Alike key p n q->
  let r:=aG (bO O key) (kas_desc f p n q)
  Gg key r.1 r.2.1/\Alike key r.1 r.2.1 r.2.2/\n<=r.2.1/\r.2.1<=n+f/\r.1.size=p.size/\r.1.Perm p
 | 0,p,n,q,hz,h1,h,a=>⟨h,a,Nat.le_refl _,Nat.le_refl _,rfl,Array.Perm.refl _⟩
 | f+1,p,n,q,hz,h1,h,a=>by
  by_cases c:bO O key (p.getD n 0) (p.getD (n - 1) 0)=true
  ·by_cases hq:q > 0
   ·have e:aG (bO O key) (kas_desc (f+1) p n q)=aG (bO O key) (kas_desc f (kas_rev p (n - (q+1)) n) (n+1) 0):=by
     show aG (bO O key) (if bO O key (p.getD n 0) (p.getD (n - 1) 0)=true then (if q > 0 then kas_desc f (kas_rev p (n - (q+1)) n) (n+1) 0 else kas_desc f p (n+1) 0) else _)=_
     rw[if_pos c,if_pos hq]
    have ke:∀ k,fi key (kas_rev p (n - (q+1)) n) k=fi key p k:=qO (by omega) a
    have sz:(kas_rev p (n - (q+1)) n).size=p.size:=mirror_size _ _ _ _
    have:=oI f (kas_rev p (n - (q+1)) n) (n+1) 0 (by rw[sz];omega) (by omega) (mw h1 (qU ke h) (by rw[ke,ke];exact KeyOrd.kle_of_klt c)) ⟨by omega,λ i h2 h3=>by
     have e9:i=n:=by omega
     rw[e9];rfl⟩
    rw[e]
    obtain⟨b1,b2,b3,b4,b5,b6⟩:=this
    exact⟨b1,b2,by omega,by omega,by rw[b5,sz],b6.trans (mirror_perm _ _ _ _)⟩
   ·have e:aG (bO O key) (kas_desc (f+1) p n q)=aG (bO O key) (kas_desc f p (n+1) 0):=by
     show aG (bO O key) (if bO O key (p.getD n 0) (p.getD (n - 1) 0)=true then (if q > 0 then kas_desc f (kas_rev p (n - (q+1)) n) (n+1) 0 else kas_desc f p (n+1) 0) else _)=_
     rw[if_pos c,if_neg hq]
    have:=oI f p (n+1) 0 (by omega) (by omega) (mw h1 h (KeyOrd.kle_of_klt c)) ⟨by omega,λ i h2 h3=>by
     have e9:i=n:=by omega
     rw[e9];rfl⟩
    rw[e]
    obtain⟨b1,b2,b3,b4,b5,b6⟩:=this
    exact⟨b1,b2,by omega,by omega,b5,b6⟩
  ·by_cases d:bO O key (p.getD (n - 1) 0) (p.getD n 0)=true
   ·have e:aG (bO O key) (kas_desc (f+1) p n q)=(p,n,q):=by
     show aG (bO O key) (if bO O key (p.getD n 0) (p.getD (n - 1) 0)=true then _ else .ask (p.getD (n - 1) 0) (p.getD n 0) λ d=>if d=true then .ret (p,n,q) else kas_desc f p (n+1) (q+1))=_
     rw[if_neg c]
     show aG (bO O key) (if bO O key (p.getD (n - 1) 0) (p.getD n 0)=true then .ret (p,n,q) else kas_desc f p (n+1) (q+1))=_
     rw[if_pos d];rfl
    rw[e]
    exact⟨h,a,Nat.le_refl _,(by show n<=n+(f+1);omega),rfl,Array.Perm.refl _⟩
   ·have e:aG (bO O key) (kas_desc (f+1) p n q)=aG (bO O key) (kas_desc f p (n+1) (q+1)):=by
     show aG (bO O key) (if bO O key (p.getD n 0) (p.getD (n - 1) 0)=true then _ else .ask (p.getD (n - 1) 0) (p.getD n 0) λ d=>if d=true then .ret (p,n,q) else kas_desc f p (n+1) (q+1))=_
     rw[if_neg c]
     show aG (bO O key) (if bO O key (p.getD (n - 1) 0) (p.getD n 0)=true then .ret (p,n,q) else kas_desc f p (n+1) (q+1))=_
     rw[if_neg d]
    have eq:fi key p n=fi key p (n - 1):=KeyOrd.kle_antisymm (KeyOrd.kle_of_not_klt d) (KeyOrd.kle_of_not_klt c)
    have:=oI f p (n+1) (q+1) (by omega) (by omega) (mw h1 h (by rw[eq];exact KeyOrd.kle_refl _)) ⟨by have:=a.1;omega,λ i h2 h3=>by
     by_cases hi:i=n
     ·subst hi;rfl
     ·show fi key p i=fi key p n
      rw[eq];exact a.2 i (by omega) (by omega)⟩
    rw[e]
    obtain⟨b1,b2,b3,b4,b5,b6⟩:=this
    exact⟨b1,b2,by omega,by omega,b5,b6⟩
theorem t_ {p:Array Nat}{n nrem:Nat}(h1:1<=n)(hn:n<=nrem)(hz:nrem<=p.size)(h:Gg key p n) :
  let r:=aG (bO O key) (kas_tail3 n nrem p)
  tU key r.2 r.1/\1<=r.1/\r.1<=nrem/\r.2.size=p.size/\r.2.Perm p:=by
 have e:aG (bO O key) (kas_tail3 n nrem p)=(aG (bO O key) (kas_asc (kas_rev p 0 n) (nrem - n) n),kas_rev p 0 n):=by
  unfold kas_tail3
  rw[gL];rfl
 rw[e]
 have s0:tU key (kas_rev p 0 n) n:=λ i j h2 h3=>by
  rw[kh (by omega),kh (by omega),if_pos (by omega),if_pos (by omega)]
  exact h _ _ (by omega) (by omega)
 obtain⟨a1,a2,a3,_⟩:=wd (nrem - n) n h1 s0
 exact⟨a1,by omega,by omega,mirror_size _ _ _ _,mirror_perm _ _ _ _⟩
theorem nY {p:Array Nat}{n nrem:Nat}(h1:1<=n)(hn:n+1<=nrem)(hz:nrem<=p.size)(h:Gg key p n)(hl:O.klt (fi key p n) (fi key p (n - 1))) :
  let r:=aG (bO O key) (kas_descPart n nrem p)
  tU key r.2 r.1/\1<=r.1/\r.1<=nrem/\r.2.size=p.size/\r.2.Perm p:=by
 have d:=oI (key:=key) (nrem - (n+1)) p (n+1) 0 (by omega) (by omega) (mw h1 h (KeyOrd.kle_of_klt hl)) ⟨by omega,λ i h2 h3=>by
     have e9:i=n:=by omega
     rw[e9];rfl⟩
 have e:aG (bO O key) (kas_descPart n nrem p)=aG (bO O key) (if (aG (bO O key) (kas_desc (nrem - (n+1)) p (n+1) 0)).2.2 > 0 then kas_tail3 (aG (bO O key) (kas_desc (nrem - (n+1)) p (n+1) 0)).2.1 nrem (kas_rev (aG (bO O key) (kas_desc (nrem - (n+1)) p (n+1) 0)).1 ((aG (bO O key) (kas_desc (nrem - (n+1)) p (n+1) 0)).2.1 - ((aG (bO O key) (kas_desc (nrem - (n+1)) p (n+1) 0)).2.2+1)) (aG (bO O key) (kas_desc (nrem - (n+1)) p (n+1) 0)).2.1) else kas_tail3 (aG (bO O key) (kas_desc (nrem - (n+1)) p (n+1) 0)).2.1 nrem (aG (bO O key) (kas_desc (nrem - (n+1)) p (n+1) 0)).1):=by
  unfold kas_descPart
  rw[gL]
 rw[e]
 generalize aG (bO O key) (kas_desc (nrem - (n+1)) p (n+1) 0)=r at *
 obtain⟨b1,b2,b3,b4,b5,b6⟩:=d
 by_cases hq:r.2.2 > 0
 ·rw[if_pos hq]
  have sz:(kas_rev r.1 (r.2.1 - (r.2.2+1)) r.2.1).size=r.1.size:=mirror_size _ _ _ _
  obtain⟨c1,c2,c3,c4,c5⟩:=t_ (key:=key) (p:=kas_rev r.1 (r.2.1 - (r.2.2+1)) r.2.1) (n:=r.2.1) (nrem:=nrem) (by omega) (by omega) (by rw[sz,b5];exact hz) (qU (qO (by omega) b2) b1)
  exact⟨c1,c2,c3,by rw[c4,sz,b5],c5.trans ((mirror_perm _ _ _ _).trans b6)⟩
 ·rw[if_neg hq]
  obtain⟨c1,c2,c3,c4,c5⟩:=t_ (key:=key) (p:=r.1) (n:=r.2.1) (nrem:=nrem) (by omega) (by omega) (by rw[b5];exact hz) b1
  exact⟨c1,c2,c3,by rw[c4,b5],c5.trans b6⟩
theorem BX {p:Array Nat}{nrem:Nat}(h1:1<=nrem)(hz:nrem<=p.size) :
  let r:=aG (bO O key) (kas_count nrem p)
  tU key r.2 r.1/\1<=r.1/\r.1<=nrem/\r.2.size=p.size/\r.2.Perm p:=by
 obtain⟨a1,a2,a3,a4⟩:=wd (key:=key) (p:=p) (nrem - 1) 1 (Nat.le_refl _) (CU p)
 have e:aG (bO O key) (kas_count nrem p)=aG (bO O key) (if (aG (bO O key) (kas_asc p (nrem - 1) 1) == nrem)=true then .ret (aG (bO O key) (kas_asc p (nrem - 1) 1),p) else if aG (bO O key) (kas_asc p (nrem - 1) 1) > 1 then .ask (p.getD 0 0) (p.getD (aG (bO O key) (kas_asc p (nrem - 1) 1) - 1) 0) λ c=>if c=true then .ret (aG (bO O key) (kas_asc p (nrem - 1) 1),p) else kas_descPart (aG (bO O key) (kas_asc p (nrem - 1) 1)) nrem (kas_rev p 0 (aG (bO O key) (kas_asc p (nrem - 1) 1)))
  else kas_descPart (aG (bO O key) (kas_asc p (nrem - 1) 1)) nrem p):=by
  unfold kas_count
  rw[gL]
 rw[e]
 generalize aG (bO O key) (kas_asc p (nrem - 1) 1)=n at *
 by_cases hn:(n == nrem)=true
 ·rw[if_pos hn]
  have:n=nrem:=by simpa using hn
  exact⟨a1,a2,(by show n<=nrem;omega),rfl,Array.Perm.refl _⟩
 ·rw[if_neg hn]
  have EO:n≠nrem:=by simpa using hn
  have hl:=a4 (by omega)
  by_cases h2:n > 1
  ·rw[if_pos h2]
   have e2:aG (bO O key) (.ask (p.getD 0 0) (p.getD (n - 1) 0) λ c=>if c=true then .ret (n,p) else kas_descPart n nrem (kas_rev p 0 n))=aG (bO O key) (if bO O key (p.getD 0 0) (p.getD (n - 1) 0)=true then .ret (n,p) else kas_descPart n nrem (kas_rev p 0 n)):=rfl
   rw[e2]
   by_cases c:bO O key (p.getD 0 0) (p.getD (n - 1) 0)=true
   ·rw[if_pos c]
    exact⟨a1,a2,(by show n<=nrem;omega),rfl,Array.Perm.refl _⟩
   ·rw[if_neg c]
    have all:∀ i,i < n->fi key p i=fi key p 0:=λ i hi=>by
     have q1:O.kle (fi key p 0) (fi key p i):=a1 0 i (Nat.zero_le _) hi
     have q2:O.kle (fi key p i) (fi key p (n - 1)):=a1 i (n - 1) (by omega) (by omega)
     have q3:O.kle (fi key p (n - 1)) (fi key p 0):=KeyOrd.kle_of_not_klt c
     exact KeyOrd.kle_antisymm (KeyOrd.kle_trans q2 q3) q1
    have sz:(kas_rev p 0 n).size=p.size:=mirror_size _ _ _ _
    have ke:∀ i,i < n->fi key (kas_rev p 0 n) i=fi key p 0:=λ i hi=>by
     rw[kh (by omega),if_pos ⟨Nat.zero_le _,hi⟩];exact all _ (by omega)
    obtain⟨c1,c2,c3,c4,c5⟩:=nY (key:=key) (p:=kas_rev p 0 n) (n:=n) (nrem:=nrem) (by omega) (by omega) (by rw[sz];exact hz)
     (λ i j h3 h4=>by rw[ke i (by omega),ke j h4];exact KeyOrd.kle_refl _)
     (by rw[kh (by omega),if_neg (by omega),ke (n - 1) (by omega),<-all (n - 1) (by omega)];exact hl)
    exact⟨c1,c2,c3,by rw[c4,sz],c5.trans (mirror_perm _ _ _ _)⟩
  ·rw[if_neg h2]
   have Ss:n=1:=by omega
   subst Ss
   exact nY (key:=key) (by omega) (by omega) hz (λ i j h3 h4=>by
    have:i=j:=by omega
    subst this;exact KeyOrd.kle_refl _) hl
theorem ph {p:Array Nat}{k:Nat}(hs:tU key p k):∀ (f l r:Nat),l<=r->r<=k->r - l<=f->(∀ i,i < l->O.kle (fi key p i) (fi key p k))->(∀ i,r<=i->i < k->O.klt (fi key p k) (fi key p i))->
  let m:=aG (bO O key) (kas_place p k f l r)
  m<=k/\(∀ i,i < m->O.kle (fi key p i) (fi key p k))/\∀ i,m<=i->i < k->O.klt (fi key p k) (fi key p i)
 | 0,l,r,h1,h2,h3,h4,h5=>⟨(by show l<=k;omega),h4,λ i h6 h7=>h5 i (by have h6:l<=i:=h6;omega) h7⟩
 | f+1,l,r,h1,h2,h3,h4,h5=>by
  by_cases hl:l ≥ r
  ·have e:aG (bO O key) (kas_place p k (f+1) l r)=l:=by
    show aG (bO O key) (if l ≥ r then .ret l else _)=l
    rw[if_pos hl];rfl
   rw[e]
   exact⟨by omega,h4,λ i h6 h7=>h5 i (by omega) h7⟩
  ·by_cases c:bO O key (p.getD k 0) (p.getD ((l+r) / 2) 0)=true
   ·have e:aG (bO O key) (kas_place p k (f+1) l r)=aG (bO O key) (kas_place p k f l ((l+r) / 2)):=by
     show aG (bO O key) (if l ≥ r then .ret l else .ask (p.getD k 0) (p.getD ((l+r) / 2) 0) λ c=>if c=true then kas_place p k f l ((l+r) / 2) else kas_place p k f ((l+r) / 2+1) r)=_
     rw[if_neg hl]
     show aG (bO O key) (if bO O key (p.getD k 0) (p.getD ((l+r) / 2) 0)=true then kas_place p k f l ((l+r) / 2) else kas_place p k f ((l+r) / 2+1) r)=_
     rw[if_pos c]
    rw[e]
    exact ph hs f l ((l+r) / 2) (by omega) (by omega) (by omega) h4 λ i h6 h7=>KeyOrd.klt_of_klt_of_kle (O:=O) c (hs _ i h6 h7)
   ·have e:aG (bO O key) (kas_place p k (f+1) l r)=aG (bO O key) (kas_place p k f ((l+r) / 2+1) r):=by
     show aG (bO O key) (if l ≥ r then .ret l else .ask (p.getD k 0) (p.getD ((l+r) / 2) 0) λ c=>if c=true then kas_place p k f l ((l+r) / 2) else kas_place p k f ((l+r) / 2+1) r)=_
     rw[if_neg hl]
     show aG (bO O key) (if bO O key (p.getD k 0) (p.getD ((l+r) / 2) 0)=true then kas_place p k f l ((l+r) / 2) else kas_place p k f ((l+r) / 2+1) r)=_
     rw[if_neg c]
    rw[e]
    exact ph hs f ((l+r) / 2+1) r (by omega) h2 (by omega) (λ i hi=>KeyOrd.kle_trans (hs i ((l+r) / 2) (by omega) (by omega)) (KeyOrd.kle_of_not_klt c)) h5
theorem EC {p:Array Nat}{k l:Nat}(hk:k < p.size)(hl:l<=k)(i:Nat):fi key (bubble p k (k - l)) i=if i=l then fi key p k else if l < i/\i<=k then fi key p (i - 1) else fi key p i:=by
 have h:=getElem?_bubble (xs:=p) hk (k - l) (by omega) i
 rw[show k - (k - l)=l by omega]at h
 by_cases hi:i=l
 ·rw[if_pos hi]at h ⊢;unfold fi;rw[mI h]
 ·rw[if_neg hi]at h ⊢
  by_cases h2:l < i/\i<=k
  ·rw[if_pos h2]at h ⊢;unfold fi;rw[mI h]
  ·rw[if_neg h2]at h ⊢;unfold fi;rw[mI h]
theorem B7:∀ (f:Nat)(p:Array Nat)(k:Nat),k+f<=p.size->tU key p k->
  let r:=aG (bO O key) (kas_bin f p k)
  tU key r (k+f)/\r.size=p.size/\r.Perm p
 | 0,p,k,h1,h=>⟨h,rfl,Array.Perm.refl _⟩
 | f+1,p,k,h1,h=>by
  obtain⟨b1,b2,b3⟩:=ph (key:=key) h k 0 k (Nat.zero_le _) (Nat.le_refl _) (by omega) (λ i hi=>by omega) (λ i h2 h3=>by omega)
  have e:aG (bO O key) (kas_bin (f+1) p k)=aG (bO O key) (kas_bin f (bubble p k (k - aG (bO O key) (kas_place p k k 0 k))) (k+1)):=by
   show aG (bO O key) ((kas_place p k k 0 k).bind λ l=>kas_bin f (bubble p k (k - l)) (k+1))=_
   rw[gL]
  rw[e]
  generalize aG (bO O key) (kas_place p k k 0 k)=l at *
  have sz:(bubble p k (k - l)).size=p.size:=bubble_size _ _ _
  have kb:∀ i,fi key (bubble p k (k - l)) i=if i=l then fi key p k else if l < i/\i<=k then fi key p (i - 1) else fi key p i:=EC (by omega) b1
  have s1:tU key (bubble p k (k - l)) (k+1):=λ i j h2 h3=>by
   rw[kb,kb]
   by_cases hi:i=l
   ·rw[if_pos hi]
    by_cases hj:j=l
    ·rw[if_pos hj];exact KeyOrd.kle_refl _
    ·rw[if_neg hj,if_pos (by omega)]
     exact KeyOrd.kle_of_klt (b3 (j - 1) (by omega) (by omega))
   ·rw[if_neg hi]
    by_cases ES:l < i/\i<=k
    ·rw[if_pos ES,if_neg (by omega),if_pos (by omega)]
     exact h _ _ (by omega) (by omega)
    ·rw[if_neg ES]
     by_cases hj:j=l
     ·rw[if_pos hj];exact b2 i (by omega)
     ·rw[if_neg hj]
      by_cases QQ:l < j/\j<=k
      ·rw[if_pos QQ];exact h _ _ (by omega) (by omega)
      ·rw[if_neg QQ];exact h _ _ h2 (by omega)
  obtain⟨c1,c2,c3⟩:=B7 f (bubble p k (k - l)) (k+1) (by rw[sz];omega) s1
  exact⟨by rw[show k+(f+1)=k+1+f by omega];exact c1,by rw[c2,sz],c3.trans (bubble_perm _ _ _)⟩
theorem CZ {n:Nat}(h1:1<=n):let r:=aG (bO O key) (kas_sort n);tU key r n/\r.size=n/\r.Perm (List.toArray (List.range n)):=by
 have hz:(List.toArray (List.range n)).size=n:=by simp
 obtain⟨a1,a2,a3,a4,a5⟩:=BX (key:=key) (p:=List.toArray (List.range n)) h1 (Nat.le_of_eq hz.symm)
 have e:aG (bO O key) (kas_sort n)=aG (bO O key) (if (aG (bO O key) (kas_count n (List.toArray (List.range n)))).1 < n then kas_bin (n - max (aG (bO O key) (kas_count n (List.toArray (List.range n)))).1 1) (aG (bO O key) (kas_count n (List.toArray (List.range n)))).2 (max (aG (bO O key) (kas_count n (List.toArray (List.range n)))).1 1) else .ret (aG (bO O key) (kas_count n (List.toArray (List.range n)))).2):=by
  unfold kas_sort
  rw[gL]
 rw[e]
 generalize aG (bO O key) (kas_count n (List.toArray (List.range n)))=r at *
 by_cases h2:r.1 < n
 ·rw[if_pos h2]
  have hm:max r.1 1=r.1:=by omega
  rw[hm]
  obtain⟨c1,c2,c3⟩:=B7 (key:=key) (n - r.1) r.2 r.1 (by rw[a4,hz];omega) a1
  exact⟨by rw[show n=r.1+(n - r.1) by omega];rw[show r.1+(n - r.1) - r.1=n - r.1 by omega];exact c1,by rw[c2,a4,hz],c3.trans a5⟩
 ·rw[if_neg h2]
  have:r.1=n:=by omega
  exact⟨(by show tU key r.2 n;rw[<-this];exact a1),(by show r.2.size=n;rw[a4,hz]),a5⟩
end
end Mm
namespace Mm
open PySem PySem.W PyProof.Rows
def mR {α:Type}(n:Nat)(Po:α->Prop):KasT α->Prop
 | .ret a=>Po a
 | .ask i j k=>i < n/\j < n/\∀ b,mR n Po (k b)
theorem mR.bind {α β:Type}{n:Nat}{Po:α->Prop}{Pq:β->Prop}{f:α->KasT β}(hf:∀ a,Po a->mR n Pq (f a)):∀ {t:KasT α},mR n Po t->mR n Pq (t.bind f)
 | .ret a,h=>hf a h
 | .ask i j k,h=>⟨h.1,h.2.1,λ b=>mR.bind hf (h.2.2 b)⟩
def AllLt (n:Nat)(p:Array Nat):Prop:=∀ i,p.getD i 0 < n
theorem allLt_of {n:Nat}(h1:1<=n){p:Array Nat}(h:∀ x∈p.toList,x < n):AllLt n p:=λ i=>by
 rw[Array.getD_eq_getD_getElem?]
 cases e:p[i]? with
 | none=>exact h1
 | some x=>exact h x (by rw[Array.mem_toList_iff];exact Array.mem_of_getElem? e)
theorem AllLt.rev {n:Nat}{p:Array Nat}(h1:1<=n)(h:AllLt n p)(i j:Nat):AllLt n (kas_rev p i j):=allLt_of h1 λ x hx=>by
 have:x∈p.toList:=by
  have hp:=(mirror_perm p i j ((j - i) / 2))
  exact(Array.perm_iff_toList_perm.mp hp).mem_iff.mp hx
 obtain⟨k,hk,e⟩:=List.getElem_of_mem this
 have:=h k
 rw[Array.getD_eq_getD_getElem?]at this
 have e2:p[k]? = some x:=by rw[<-Array.getElem?_toList,List.getElem?_eq_getElem hk,e]
 rw[e2]at this
 exact this
theorem AllLt.Th {n:Nat}{p:Array Nat}(h1:1<=n)(h:AllLt n p)(i j:Nat):AllLt n (bubble p i j):=allLt_of h1 λ x hx=>by
 have:x∈p.toList:=(Array.perm_iff_toList_perm.mp (bubble_perm p i j)).mem_iff.mp hx
 obtain⟨k,hk,e⟩:=List.getElem_of_mem this
 have:=h k
 rw[Array.getD_eq_getD_getElem?]at this
 have e2:p[k]? = some x:=by rw[<-Array.getElem?_toList,List.getElem?_eq_getElem hk,e]
 rw[e2]at this
 exact this
theorem we {n:Nat}{p:Array Nat}(h:AllLt n p):∀ (f m:Nat),mR n (λ _=>True) (kas_asc p f m)
 | 0,m=>trivial
 | f+1,m=>⟨h _,h _,λ b=>by
  show mR n _ (if b=true then .ret m else kas_asc p f (m+1))
  split
  ·trivial
  ·exact we h f (m+1)⟩
theorem oJ {n:Nat}(h1:1<=n):∀ (f:Nat) {p:Array Nat}(m q:Nat),AllLt n p->mR n (λ r=>AllLt n r.1) (kas_desc f p m q)
 | 0,p,m,q,h=>h
 | f+1,p,m,q,h=>⟨h _,h _,λ b=>by
  show mR n _ (if b=true then (if q > 0 then kas_desc f (kas_rev p (m - (q+1)) m) (m+1) 0 else kas_desc f p (m+1) 0) else .ask (p.getD (m - 1) 0) (p.getD m 0) λ d=>if d=true then .ret (p,m,q) else kas_desc f p (m+1) (q+1))
  split
  ·split
   ·exact oJ h1 f _ _ (h.rev h1 _ _)
   ·exact oJ h1 f _ _ h
  ·refine⟨h _,h _,λ d=>?_⟩
   show mR n _ (if d=true then .ret (p,m,q) else kas_desc f p (m+1) (q+1))
   split
   ·exact h
   ·exact oJ h1 f _ _ h⟩
theorem ua {n:Nat}(h1:1<=n){p:Array Nat}(h:AllLt n p)(m nrem:Nat):mR n (λ r=>AllLt n r.2) (kas_tail3 m nrem p):=by
 have a:=we (h.rev h1 0 m) (nrem - m) m
 unfold kas_tail3
 refine mR.bind (Pq:=λ r:Nat × Array Nat=>AllLt n r.2) (λ q _=>?_) a
 exact h.rev h1 0 m
theorem nZ {n:Nat}(h1:1<=n){p:Array Nat}(h:AllLt n p)(m nrem:Nat):mR n (λ r=>AllLt n r.2) (kas_descPart m nrem p):=
 mR.bind (λ r hr=>by
  show mR n _ (if r.2.2 > 0 then _ else _)
  split
  ·exact ua h1 (AllLt.rev h1 hr _ _) _ _
  ·exact ua h1 hr _ _) (oJ h1 _ _ _ h)
theorem BY {n:Nat}(h1:1<=n){p:Array Nat}(h:AllLt n p)(nrem:Nat):mR n (λ r=>AllLt n r.2) (kas_count nrem p):=
 mR.bind (λ m _=>by
  show mR n _ (if (m == nrem)=true then .ret (m,p) else if m > 1 then .ask (p.getD 0 0) (p.getD (m - 1) 0) λ c=>if c=true then .ret (m,p) else kas_descPart m nrem (kas_rev p 0 m) else kas_descPart m nrem p)
  split
  ·exact h
  ·split
   ·refine⟨h _,h _,λ c=>?_⟩
    show mR n _ (if c=true then .ret (m,p) else kas_descPart m nrem (kas_rev p 0 m))
    split
    ·exact h
    ·exact nZ h1 (h.rev h1 _ _) _ _
   ·exact nZ h1 h _ _) (we h _ _)
theorem pj {n:Nat}{p:Array Nat}(h:AllLt n p)(k:Nat):∀ (f l r:Nat),mR n (λ _=>True) (kas_place p k f l r)
 | 0,l,r=>trivial
 | f+1,l,r=>by
  show mR n _ (if l ≥ r then .ret l else .ask (p.getD k 0) (p.getD ((l+r) / 2) 0) λ c=>if c=true then kas_place p k f l ((l+r) / 2) else kas_place p k f ((l+r) / 2+1) r)
  split
  ·trivial
  ·refine⟨h _,h _,λ c=>?_⟩
   show mR n _ (if c=true then kas_place p k f l ((l+r) / 2) else kas_place p k f ((l+r) / 2+1) r)
   split
   ·exact pj h k f _ _
   ·exact pj h k f _ _
theorem B8 {n:Nat}(h1:1<=n):∀ (f:Nat) {p:Array Nat}(k:Nat),AllLt n p->mR n (λ _=>True) (kas_bin f p k)
 | 0,p,k,h=>trivial
 | f+1,p,k,h=>mR.bind (λ l _=>B8 h1 f _ (h.Th h1 _ _)) (pj h k k 0 k)
theorem C0 {n:Nat}(h1:1<=n):mR n (λ _=>True) (kas_sort n):=
 mR.bind (λ r hr=>by
  show mR n _ (if r.1 < n then _ else _)
  split
  ·exact B8 h1 _ _ hr
  ·trivial) (BY h1 (allLt_of h1 λ x hx=>by simpa using hx) n)
theorem Fz {α:Type}{cmp:Nat->Nat->(Bool->Shared->Prop)->Shared->Prop}{lt:Nat->Nat->Bool}{n:Nat}{s:Shared}(hc:∀ i j C,i < n->j < n->C (lt i j) s->cmp i j C s) {Q:α->Shared->Prop}:∀ {t:KasT α},mR n (λ _=>True) t->Q (aG lt t) s->t.kasWp cmp Q s
 | .ret a,_,h=>h
 | .ask i j k,hi,h=>hc i j _ hi.1 hi.2.1 (Fz hc (hi.2.2 _) h)
section
variable {prog:Program}{w:World}{A:Around}{E:Value->Shared->Prop}{s:Shared}{a:Addr}{vs:List Value}
theorem C1 {O:KeyOrd}{key:Nat->O.α}{κ:SortKind}{n:Nat}{P:PySem.Fin->Shared->Prop}(ho:s.heap.get? a=some (seqObj "list" vs.toArray n)) (h2:2<=vs.length)(FU:vs.length < 64)
  (hk:∀ h':Heap,(∀ b o,b≠a->s.heap.get? b=some o->h'.get? b=some o)->∀ Q:SortKind->Shared->Prop,Q κ { s with heap:=h' }->wpAny (model prog w) A (keyKind' vs.toArray) Q (λ _ _=>False) { s with heap:=h' })
  (ha:∀ h':Heap,(∀ b o,b≠a->s.heap.get? b=some o->h'.get? b=some o)->∀ i j C,i < vs.length->j < vs.length->C (O.blt (key i) (key j)) { s with heap:=h' }->wpAny (model prog w) A (keyLt' κ (vs.getD i Value.none) (vs.getD j Value.none)) C (λ _ _=>False) { s with heap:=h' })
  (h:∀ p:Array Nat,tU key p vs.length->p.size=vs.length->p.Perm (List.toArray (List.range vs.length))->P (.done (.ret .none)) { s with heap:=sortedHeap s.heap a vs (List.toArray (p.toList.map λ i=>vs.getD i Value.none)) }) :
  wpAny (model prog w) A (Builtin.«list.sort» ⟨[.ref a],[]⟩) P E s:=by
 have Sv:a < s.heap.objs.size:=Heap.lt_size ho
 obtain⟨e1,az⟩:∃ e1,(s.heap.update a (Obj.mapSeq λ _=>(#[]:Array Value))).get? a=some (seqObj "list" #[] e1):=⟨_,get?_update_seq ho λ _=>#[]⟩
 rw[list_sort_plain]
 refine wpAny_bind (listItems_at ho rfl ?_)
 refine wpAny_bind (listUpdate_at ho rfl ?_ (by rw[List.size_toArray,sizeLine_eq];omega) (Nat.zero_le _))
 refine wpAny_bind (seqEpoch_at az rfl ?_)
 refine wpAny_bind (wpAny_newTuple ?_ (by show vs.length<=_;rw[sizeLine_eq];omega))
 refine wpAny_bind (wpAny_newList ?_ (Nat.zero_le _))
 refine wpAny_holding ?_
 show wpAny (model prog w) A _ P E { s with heap:=((s.heap.update a (Obj.mapSeq λ _=>(#[]:Array Value))).push (seqObj "tuple" vs.toArray 0)).push (seqObj "list" #[] 0) }
 dsimp only
 have Cm:¬ vs.toArray.size < 2:=by rw[List.size_toArray];omega
 rw[if_neg Cm,if_neg Cm]
 have keep:∀ b o,b≠a->s.heap.get? b=some o->(((s.heap.update a (Obj.mapSeq λ _=>(#[]:Array Value))).push (seqObj "tuple" vs.toArray 0)).push (seqObj "list" #[] 0)).get? b=some o:=λ b o hb e=>
  Heap.get?_push_of_some _ (Heap.get?_push_of_some _ ((Heap.get?_update_other _ _ (Ne.symm hb)).trans e))
 refine wpAny_bind (wpAny_mono (hk _ keep _ ?_) (λ κ s0 hk=>hk) λ _ _ x=>x.elim)
 have ask:=Fz (cmp:=kas_ask prog w A κ vs) (lt:=bO O key) (s:={ s with heap:=((s.heap.update a (Obj.mapSeq λ _=>(#[]:Array Value))).push (seqObj "tuple" vs.toArray 0)).push (seqObj "list" #[] 0) })
  (Q:=λ p ve=>p=aG (bO O key) (kas_sort vs.length)/\ve={ s with heap:=((s.heap.update a (Obj.mapSeq λ _=>(#[]:Array Value))).push (seqObj "tuple" vs.toArray 0)).push (seqObj "list" #[] 0) }) (λ i j C hi hj hC=>ha _ keep i j C hi hj hC) (C0 (by omega)) ⟨rfl,rfl⟩
 refine wpAny_bind (wpAny_mono (kat_run (Q:=λ qj s'=>∃ p:Array Nat,p.size=vs.length/\arrOf qj=p.map (kas_item (vs.toArray.zip vs.toArray))/\failedOf qj=none/\p=aG (bO O key) (kas_sort vs.length)/\s'={ s with heap:=((s.heap.update a (Obj.mapSeq λ _=>(#[]:Array Value))).push (seqObj "tuple" vs.toArray 0)).push (seqObj "list" #[] 0) })
  rfl h2 FU (λ p' qj s' a1 a2 a3 a4=>⟨p',a1,a2,a3,a4.1,a4.2⟩) ask) ?_ λ _ _ e=>e)
 rintro⟨⟨⟩,qj⟩ s' ⟨p,hp,SH,hf,rfl,rfl⟩
 dsimp only
 have IK:=kat_snds rfl SH
 have hsz:(List.toArray ((aG (bO O key) (kas_sort vs.length)).toList.map λ i=>vs.getD i Value.none)).size=vs.length:=by rw[List.size_toArray,List.length_map,Array.length_toList,hp]
 rw[IK]
 have na:(((s.heap.update a (Obj.mapSeq λ _=>(#[]:Array Value))).push (seqObj "tuple" vs.toArray 0)).push (seqObj "list" #[] 0)).get? a=some (seqObj "list" #[] e1):=Heap.get?_push_of_some _ (Heap.get?_push_of_some _ az)
 refine wpAny_bind (seqEpoch_at na rfl ?_)
 refine wpAny_bind (listUpdate_at na rfl ?_ (Nat.zero_le _) (Nat.le_trans (Nat.le_of_eq hsz) (by rw[sizeLine_eq];omega)))
 rw[hf]
 simp only[bne_self_eq_false,Bool.false_eq_true,if_false]
 obtain⟨q1,q2,q3⟩:=CZ (key:=key) (n:=vs.length) (by omega)
 exact wpAny_pure (h _ q1 q2 q3)
end
end Mm
namespace L2
open PySem PySem.Spec PyProof.Rows
theorem bP.mW {P:Program}{w:World}{H:Hp}{h:Heap}{a:Addr}{o:HO}(x:bP P w H h a o):∃ u,h.get? a=some u:=by
 cases o with
 | lst xs=>obtain⟨_,_,_,_,e⟩:=x;exact⟨_,e⟩
 | tup xs=>obtain⟨_,_,_,⟨_,e,_⟩⟩:=x;exact⟨_,e⟩
 | dK kvs=>obtain⟨_,_,_,_,o,_,_,e,_⟩:=x;exact⟨_,e⟩
 | dT kvs=>obtain⟨_,_,_,_,o,_,_,e,_⟩:=x;exact⟨_,e⟩
 | set S n=>obtain⟨o,_,_,_,e,_⟩:=x;exact⟨_,e⟩
 | ins C dx fs=>obtain⟨_,_,_,e,_⟩:=x;exact⟨_,e⟩
 | own y=>obtain⟨_,e⟩:=x;exact⟨_,e⟩
 | xd fs=>obtain⟨_,⟨_,_,_,e,_⟩,_⟩:=x;exact⟨_,e⟩
 | Kd lo hi=>obtain⟨_,_,_,e⟩:=x;exact⟨_,e⟩
 | ll ob u=>obtain⟨e,_⟩:=x;exact⟨_,e⟩
 | oA ps=>exact⟨_,show h.get? a=some _ from x⟩
 | met f y=>exact⟨_,show h.get? a=some _ from x⟩
 | ext φ=>obtain⟨_,⟨_,e⟩,_⟩:=x;exact⟨_,e⟩
theorem Inv.grown {X:Cx}{pins:List (Addr × Obj)}{σ:St}{H H':Hp}{s:Shared}{h':Heap}{t':Nat}(I:Inv X pins σ H s)(k:∀ b u,s.heap.get? b=some u->h'.get? b=some u)(e:∀ b u,s.heap.get? b=some u->H' b=H b)
  (new:∀ b o,s.heap.get? b=none->H' b=some o->bP X.prog X.w H' h' b o):Inv X pins σ H' { s with heap:=h',toks:=t' }:=by
 have old:∀ b o,H b=some o->H' b=some o:=λ b o z=>by
  obtain⟨u,hu⟩:=(I.aX b o z).mW
  rw[e b u hu];exact z
 refine I.un ⟨λ b u q _ _ _=>k b u q,λ b u q _ _ _=>⟨u.slots,k b u q⟩,λ b u q n _=>by rw[e b u q];exact n,λ b u q _=>⟨u,k b u q⟩,λ b xs q=>old b _ q,λ b u xs q=>old b _ q,λ b ps q=>⟨#[],by rw[old b _ q];simp⟩⟩ λ b o z=>?_
 cases hb:s.heap.get? b with
 | some u=>
  rw[e b u hb]at z
  exact(I.aX b o z).ly (λ c u _ q=>k c u q) (λ c q=>old c _ q) λ c xs q=>old c _ q
 | none=>exact new b o hb z
def uA (a b:Str):Bool:=!decide (b.cps.toList < a.cps.toList)
def yr (a:Str):List Str->List Str
 | []=>[a]
 | b :: r=>if uA a b=true then a :: b :: r else b :: yr a r
def av:List Str->List Str
 | []=>[]
 | a :: r=>yr a (av r)
theorem nv (a:Str):∀ l,(yr a l).Perm (a :: l)
 | []=>.refl _
 | b :: r=>by
  unfold yr
  split
  ·exact .refl _
  ·exact((nv a r).cons b).trans (.swap a b r)
theorem gU:∀ l,(av l).Perm l
 | []=>.refl _
 | a :: r=>(nv a (av r)).trans ((gU r).cons a)
abbrev oS:KeyOrd:=strKind.toKeyOrd
abbrev Fg (a:Str):oS.α:=a.cps.toList
theorem mC {a b:Str}:uA a b=true ↔ oS.kle (Fg a) (Fg b):=by
 unfold uA KeyOrd.kle
 show(!decide (b.cps.toList < a.cps.toList))=true ↔ decide (b.cps.toList < a.cps.toList)=false
 simp
theorem yk (a b:Str)(h:uA a b≠true):uA b a=true:=by
 rw[mC]
 refine KeyOrd.kle_of_not_klt λ z=>?_
 exact h (mC.mpr (KeyOrd.kle_of_klt z))
theorem q_ {a b c:Str}(h:uA a b=true)(k:uA b c=true):uA a c=true:=by
 rw[mC]at *
 exact KeyOrd.kle_trans h k
theorem Bf {a b:Str}(h:uA a b=true)(k:uA b a=true):a=b:=by
 rw[mC]at *
 have e:a.cps.toList=b.cps.toList:=KeyOrd.kle_antisymm h k
 cases a with|mk x=>cases b with|mk y=>exact congrArg Str.mk (Array.toList_inj.mp e)
theorem nS (a:Str):∀ {l:List Str},l.Pairwise (λ x y=>uA x y=true)->(yr a l).Pairwise (λ x y=>uA x y=true)
 | [],_=>List.pairwise_singleton _ _
 | b :: r,h=>by
  unfold yr
  split
  ·rename_i hb
   refine List.pairwise_cons.mpr ⟨λ x hx=>?_,h⟩
   rcases List.mem_cons.mp hx with rfl|hx
   ·exact hb
   ·exact q_ hb ((List.pairwise_cons.mp h).1 x hx)
  ·rename_i hb
   refine List.pairwise_cons.mpr ⟨λ x hx=>?_,nS a (List.pairwise_cons.mp h).2⟩
   rcases List.mem_cons.mp ((nv a r).mem_iff.mp hx) with rfl|hx
   ·exact yk _ _ hb
   ·exact(List.pairwise_cons.mp h).1 x hx
theorem l9:∀ l,(av l).Pairwise (λ x y=>uA x y=true)
 | []=>List.Pairwise.nil
 | a :: r=>nS a (l9 r)
theorem nI {α:Type}{le:α->α->Bool}(Fp:∀ a b,le a b=true->le b a=true->a=b):∀ {l q:List α},l.Perm q->l.Pairwise (λ x y=>le x y=true)->q.Pairwise (λ x y=>le x y=true)->l=q
 | [],q,p,_,_=>(List.nil_perm.mp p).symm
 | a :: r,q,p,h,k=>by
  cases q with
  | nil=>exact absurd (p.length_eq) (by simp)
  | cons b t=>
   have Co:a=b:=by
    rcases List.mem_cons.mp (p.mem_iff.mp List.mem_cons_self) with e|ha
    ·exact e
    ·rcases List.mem_cons.mp (p.mem_iff.mpr List.mem_cons_self) with e|hb
     ·exact e.symm
     ·exact Fp _ _ ((List.pairwise_cons.mp h).1 b hb) ((List.pairwise_cons.mp k).1 a ha)
   subst Co
   rw[nI Fp p.cons_inv (List.pairwise_cons.mp h).2 (List.pairwise_cons.mp k).2]
theorem je {l q:List Str}(p:l.Perm q)(h:l.Pairwise (λ x y=>uA x y=true)):l=av q:=
 nI (λ _ _=>Bf) (p.trans (gU q).symm) h (l9 q)
theorem gD:∀ {l:List Str},sortedS l=true->l.Pairwise (λ x y=>uA x y=true)
 | [],_=>.nil
 | [a],_=>List.pairwise_singleton _ _
 | a :: b :: r,h=>by
  have h:(!ltCps b.cps.toList a.cps.toList && risingS b r)=true:=h
  rw[Bool.and_eq_true]at h
  have ih:(b :: r).Pairwise (λ x y=>uA x y=true):=gD h.2
  have Co:uA a b=true:=by
   have:=h.1
   rw[ltCps_eq]at this
   exact this
  refine List.pairwise_cons.mpr ⟨λ x hx=>?_,ih⟩
  rcases List.mem_cons.mp hx with rfl|hx
  ·exact Co
  ·exact q_ Co ((List.pairwise_cons.mp ih).1 x hx)
theorem o_:∀ {l:List Value}{ks:List Str},l.length=ks.length->(∀ j (hj:j < ks.length),∃ t,l[j]? = some (.str ks[j] t))->StrsAre l ks
 | [],[],_,_=>.nil
 | [],_ :: _,h,_=>by simp at h
 | _ :: _,[],h,_=>by simp at h
 | v :: r,k :: q,h,g=>by
  obtain⟨t,e⟩:=g 0 (by simp)
  simp at e
  subst e
  exact .cons k t (o_ (by simpa using h) λ j hj=>by
   obtain⟨t,e⟩:=g (j+1) (by simpa using hj)
   exact⟨t,by simpa using e⟩)
theorem wY {kvs:List (Key × V)}{vs:List (Key × Value)}(rel:KV kvs vs){ks:List Str}(hk:kvs.map (·.1)=ks.map Sum.inr) {j:Nat}{k:Key}{x:Value}(e:vs[j]? = some (k,x)) (hj:j < ks.length):k=Sum.inr ks[j]:=by
 have h1:(vs.map (·.1))=kvs.map (·.1):=by
  clear hk e
  unfold KV at rel
  induction rel with
  | nil=>rfl
  | cons h _ ih=>rw[List.map_cons,List.map_cons,ih,h.1]
 have h2:(vs.map (·.1))[j]? = some k:=by rw[List.getElem?_map,e];rfl
 rw[h1,hk,List.getElem?_map,List.getElem?_eq_getElem hj]at h2
 exact(Option.some.inj h2).symm
def GU:List V->Hp->VK->Prop:=λ xs H Q=>∃ (d:Addr)(kvs:List (Key × V)) (ks:List Str),xs=[.ref d]/\H d=some (.dK kvs)/\kvs.map (·.1)=ks.map Sum.inr/\ks.length < 64/\∀ l,H l=none->Q (.ref l) (upd H l (.lst ((av ks).map V.str)))
theorem wa {X:Cx}(hc:X.calm=true):dP X (.builtin "sorted") GU:=by
 rintro pins s σ H xs us Q I rv ⟨d,kvs,ks,rfl,hH,hk,FU,q⟩
 obtain⟨u,rfl,ru⟩:=rv.one
 cases (show u=Value.ref d from ru)
 obtain⟨z,hd,vs,rel,dd⟩:=uS I.aX hH
 obtain⟨ep,PD⟩:=dd.dictAt
 have Bp:vs.length=ks.length:=by
  have h1:=congrArg List.length hk
  have h2:=rel.length
  rw[List.length_map,List.length_map]at h1
  omega
 have hh:=I.ok.hd hc
 refine PySem.Calls.call_function_entry kind_sorted plain_sorted entry_sorted (args_sorted1 _) ?_
 unfold Builtin.«sorted»
 refine wpAny_bind (m:=checkCount "sorted" 1 1 _) (wpAny_pure ?_)
 refine wpAny_bind (PySem.W.kdu_collect (A:=X.A.in1) (PySem.W.kdl_dict (knd:=bx X.prog X.w) (kvs:=vs) (ep:=ep) hd) hh PD (by rw[<-rel.length];exact z) λ h' tk acc JB LU=>?_)
 have hl:acc.toList.length=ks.length:=by rw[Array.length_toList,LU.1,Bp]
 have hS:StrsAre acc.toList ks:=o_ hl λ j hj=>by
  have IS:j < acc.size:=by rw[<-Array.length_toList,hl];exact hj
  obtain⟨k,x,e1,e2⟩:=LU.2 j acc[j] (by rw[Array.getElem?_eq_getElem IS])
  have ek:k=Sum.inr ks[j]:=wY rel hk e1 hj
  subst ek
  obtain⟨t,et⟩:=Value.isStrOf_shape (show Value.isStrOf ks[j] acc[j]=true from e2)
  exact⟨t,by rw[Array.getElem?_toList,Array.getElem?_eq_getElem IS,et]⟩
 refine wpAny_bind (wpAny_newList ?_ (by rw[hl];exact Nat.le_of_lt (bZ (by omega))))
 have hoL:(h'.push (seqObj "list" acc.toList.toArray 0)).get? h'.objs.size=some (seqObj "list" acc.toList.toArray 0):=Heap.get?_push_size _ rfl
 refine wpAny_bind (wpAny_holding (wpAny_call_entry slot_list_sort ⟨_,hoL,rfl⟩ entry_list_sort (list_sort_treeK strKind_oneLt hoL hS.keysOf (λ v₁ v₂ rest e=>keyKind_strs (by rw[<-e];exact hS)) (by rw[hl];exact FU) λ qj a1 a2=>⟨_,rfl,?_⟩) (args_list_sort _)))
 obtain⟨Cj,h1,h2,h3⟩:=sorted_out_str hS a1 a2
 have e1:Cj=av ks:=je h2 (gD h3)
 subst e1
 have hold:∀ b u,s.heap.get? b=some u->b≠h'.objs.size:=λ b u e=>Nat.ne_of_lt (Heap.lt_size (JB b u e))
 have SN:H h'.objs.size=none:=by
  cases q0:H h'.objs.size with
  | none=>rfl
  | some o=>obtain⟨u,hu⟩:=(I.aX _ o q0).mW;exact absurd rfl (hold _ u hu)
 obtain⟨ec,Px⟩:=sortedHeap_at hoL (out:=(arrOf qj).map (·.2))
 refine wpAny_pure ⟨_,rfl,.ref h'.objs.size,upd H h'.objs.size (.lst ((av ks).map V.str)),?_,rfl,q _ SN⟩
 refine I.grown (λ b u e=>?_) (λ b u e=>ah (hold b u e)) λ b o e z=>?_
 ·rw[sortedHeap_old (hold b u e) (by rw[Heap.size_push];exact Nat.lt_succ_of_lt (Heap.lt_size (JB b u e)))]
  exact Heap.get?_push_of_some _ (JB b u e)
 ·by_cases hb:b=h'.objs.size
  ·subst hb
   rw[aw]at z
   cases z
   refine⟨by rw[List.length_map,h2.length_eq];exact Nat.le_of_lt (bZ (by omega)),_,ec,fV h1,?_⟩
   rw[Px]
  ·rw[ah hb]at z
   obtain⟨u,hu⟩:=(I.aX b o z).mW
   rw[e]at hu;cases hu
end L2
namespace Mm
open PySem PySem.W PyProof.Rows
section
variable {prog:Program}{w:World}{A:Around}{E:Value->Shared->Prop}{s:Shared}{a:Addr}{vs:List Value}
theorem zC {O:KeyOrd}{key:Nat->O.α}{κ:SortKind}{n:Nat}{P:PySem.Fin->Shared->Prop}(ho:s.heap.get? a=some (seqObj "list" vs.toArray n)) (FU:vs.length < 64)
  (hk:∀ h':Heap,2<=vs.length->(∀ b o,b≠a->s.heap.get? b=some o->h'.get? b=some o)->∀ Q:SortKind->Shared->Prop,Q κ { s with heap:=h' }->wpAny (model prog w) A (keyKind' vs.toArray) Q (λ _ _=>False) { s with heap:=h' })
  (ha:∀ h':Heap,(∀ b o,b≠a->s.heap.get? b=some o->h'.get? b=some o)->∀ i j C,i < vs.length->j < vs.length->C (O.blt (key i) (key j)) { s with heap:=h' }->wpAny (model prog w) A (keyLt' κ (vs.getD i Value.none) (vs.getD j Value.none)) C (λ _ _=>False) { s with heap:=h' })
  (h:∀ p:Array Nat,tU key p vs.length->p.size=vs.length->p.Perm (List.toArray (List.range vs.length))->P (.done (.ret .none)) { s with heap:=sortedHeap s.heap a vs (List.toArray (p.toList.map λ i=>vs.getD i Value.none)) }) :
  wpAny (model prog w) A (Builtin.«list.sort» ⟨[.ref a],[]⟩) P E s:=by
 by_cases h2:2<=vs.length
 ·exact C1 ho h2 FU (λ h' k=>hk h' h2 k) ha h
 ·have Sv:a < s.heap.objs.size:=Heap.lt_size ho
  obtain⟨e1,az⟩:∃ e1,(s.heap.update a (Obj.mapSeq λ _=>(#[]:Array Value))).get? a=some (seqObj "list" #[] e1):=⟨_,get?_update_seq ho λ _=>#[]⟩
  rw[list_sort_plain]
  refine wpAny_bind (listItems_at ho rfl ?_)
  refine wpAny_bind (listUpdate_at ho rfl ?_ (by rw[List.size_toArray,sizeLine_eq];omega) (Nat.zero_le _))
  refine wpAny_bind (seqEpoch_at az rfl ?_)
  refine wpAny_bind (wpAny_newTuple ?_ (by show vs.length<=_;rw[sizeLine_eq];omega))
  refine wpAny_bind (wpAny_newList ?_ (Nat.zero_le _))
  refine wpAny_holding ?_
  show wpAny (model prog w) A _ P E { s with heap:=((s.heap.update a (Obj.mapSeq λ _=>(#[]:Array Value))).push (seqObj "tuple" vs.toArray 0)).push (seqObj "list" #[] 0) }
  dsimp only
  have Cm:vs.toArray.size < 2:=by rw[List.size_toArray];omega
  rw[if_pos Cm,if_pos Cm]
  refine wpAny_bind (wpAny_pure ?_)
  rw[StateT.run_pure]
  refine wpAny_bind (wpAny_pure ?_)
  dsimp only
  have na:(((s.heap.update a (Obj.mapSeq λ _=>(#[]:Array Value))).push (seqObj "tuple" vs.toArray 0)).push (seqObj "list" #[] 0)).get? a=some (seqObj "list" #[] e1):=Heap.get?_push_of_some _ (Heap.get?_push_of_some _ az)
  refine wpAny_bind (seqEpoch_at na rfl ?_)
  refine wpAny_bind (listUpdate_at na rfl ?_ (Nat.zero_le _) (by rw[Array.size_map];show(pairsOf vs).size<=_;rw[pairsOf_size,sizeLine_eq];omega))
  simp only[bne_self_eq_false,Bool.false_eq_true,if_false]
  have q:=h (List.toArray (List.range vs.length)) (λ i j h3 h4=>by
   have:i=j:=by omega
   subst this;exact KeyOrd.kle_refl _) (by simp) (Array.Perm.refl _)
  have e:List.toArray ((List.toArray (List.range vs.length)).toList.map λ i=>vs.getD i Value.none)=(vs.toArray.zip vs.toArray).map (·.2):=by
   apply Array.toList_inj.mp
   apply List.ext_getElem
   ·simp
   ·intro i h5 h6
    have hi:i < vs.length:=by simpa using h5
    simp[hi]
  rw[e]at q
  exact wpAny_pure q
end
end Mm
namespace L2
open PySem PySem.Spec PyProof.Rows
def GW:V->List V->Hp->VK->Prop:=λ x vs H Q=>∃ d kvs,x=.ref d/\vs=[]/\H d=some (.dK kvs)/\∀ v,H v=none->Q (.ref v) (upd H v (.ext λ h=>h.IsItemsView v d))
theorem AL {X:Cx}:Cy X "dict.items" GW:=by
 rintro pins s σ H x xs v us Q I rx rv ⟨d,kvs,rfl,rfl,hH,q⟩
 cases rx
 cases rv
 obtain⟨z,hd,vs,rel,dd⟩:=uS I.aX hH
 refine call_meetsIn PySem.F.slot_dict_items dd.typeIs PySem.F.entry_dict_items (PySem.F.args_dict_items_1 _) (meets_dict_items (bx X.prog X.w) d hd) ⟨⟨vs,dd⟩,?_⟩
 refine⟨.ref s.heap.objs.size,_,I.laid (a:=s.heap.objs.size) (o:=.ext λ h=>h.IsItemsView s.heap.objs.size d) (t':=s.toks) (λ _ _ q=>Heap.get?_push_of_some _ q) (Nat.le_refl _) ⟨⟨_,Heap.get?_push_size _ rfl,rfl,rfl⟩,⟨_,Heap.get?_push_size _ rfl⟩,λ h1 h2 ⟨o,e,r⟩ k=>⟨o,k o e,r⟩⟩,rfl,q _ (I.aX.fresh (Nat.le_refl _))⟩
def C9:List V->Hp->VK->Prop:=λ xs H Q=>∃ (v d:Addr)(kvs:List (Key × V)) (ks:List Str),xs=[.ref v]/\H v=some (.ext λ h=>h.IsItemsView v d)/\H d=some (.dK kvs)/\kvs.map (·.1)=ks.map Sum.inr/\ks.length < 64/\
 ∀ l H' ws,H l=none->(∀ b o,H b=some o->H' b=some o)->(∀ b,H' b=none->H b=none)->H' l=some (.lst ws)->ws.length=ks.length->
  (∀ (j:Nat) (k:Str),(av ks)[j]? = some k->∃ a x,ws[j]? = some (.ref a)/\gR kvs (Sum.inr k)=some x/\H a=none/\H' a=some (.tup [.str k,x]))->Q (.ref l) H'
theorem Bm {as:List Addr}(nd:as.Nodup){j:Nat}(hj:j < as.length):as.idxOf as[j]=j:=by
 have h1:=List.idxOf_lt_length_of_mem (List.getElem_mem hj)
 exact(List.getElem_inj nd).mp (List.getElem_idxOf h1)
theorem Lk {kvs:List (Key × V)}{vs:List (Key × Value)}(rel:KV kvs vs){j:Nat}{k:Key}{x:Value}(e:vs[j]? = some (k,x)):∃ y,kvs[j]? = some (k,y)/\RelV y x:=by
 unfold KV at rel
 induction rel generalizing j with
 | nil=>simp at e
 | cons h _ ih=>
  cases j with
  | zero=>
   simp at e
   subst e
   exact⟨_,(by rw[List.getElem?_cons_zero];exact congrArg some (Prod.ext h.1 rfl)),h.2⟩
  | succ j=>exact ih (by simpa using e)
theorem CL {kvs:List (Key × V)}{ks:List Str}(hk:kvs.map (·.1)=ks.map Sum.inr) (nd:ks.Nodup){j:Nat}{k:Str}{y:V}(e:kvs[j]? = some (Sum.inr k,y)):gR kvs (Sum.inr k)=some y:=by
 induction kvs generalizing ks j with
 | nil=>simp at e
 | cons p r ih=>
  cases ks with
  | nil=>simp at hk
  | cons q t=>
   rw[List.map_cons,List.map_cons,List.cons.injEq]at hk
   cases j with
   | zero=>
    simp at e
    subst e
    exact jM rfl
   | succ j=>
    have e:r[j]? = some (Sum.inr k,y):=by simpa using e
    rw[jN]
    ·exact ih hk.2 (List.nodup_cons.mp nd).2 e
    ·intro z
     have:k∈t:=by
      have h1:(r.map (·.1))[j]? = some (Sum.inr k):=by rw[List.getElem?_map,e];rfl
      rw[hk.2]at h1
      have:=List.mem_of_getElem? h1
      obtain⟨k',h2,h3⟩:=List.mem_map.mp this
      cases h3;exact h2
     rw[hk.1]at z
     have:q=k:=Sum.inr.inj z
     subst this
     exact(List.nodup_cons.mp nd).1 (by assumption)
theorem EA {kvs:List (Key × V)}{vs:List (Key × Value)}(rel:KV kvs vs):vs.map (·.1)=kvs.map (·.1):=by
 unfold KV at rel
 induction rel with
 | nil=>rfl
 | cons h _ ih=>rw[List.map_cons,List.map_cons,ih,h.1]
theorem uO {prog:Program}{w:World}{A:Around}{E:Value->Shared->Prop}{s:Shared}{v:Value}{Q:Bool->Shared->Prop}(h:Q true s):wpAny (model prog w) A (eqBool v v) Q E s:=by
 unfold eqBool
 refine wpAny_holding ?_
 rw[if_pos (beq_self_eq_true v)]
 exact wpAny_bind (wpAny_rule (wpAny_pure h))
theorem pP {h:Heap}:∀ {as:List Addr},(∀ (j:Nat) (a:Addr),as[j]? = some a->∃ (k:Str) (t:Tok) (x:Value),h.get? a=some { cls:=.type "tuple",data:=.seq #[.str k t,x] })->∃ fs,PySem.W.KatTups h (as.map Value.ref) fs/\(∀ v∈fs,∃ (x:Str) (t:Tok),v=.str x t)/\fs.length=as.length
 | [],_=>⟨[],PySem.W.KatTups.nil,(λ v z=>nomatch z),rfl⟩
 | a :: r,g=>by
  obtain⟨k,t,x,e⟩:=g 0 a rfl
  obtain⟨fs,k1,k2,k3⟩:=pP (as:=r) λ j b hb=>g (j+1) b (by simpa using hb)
  refine⟨.str k t :: fs,PySem.W.KatTups.cons e rfl rfl rfl k1,λ v hv=>?_,by simp[k3]⟩
  rcases List.mem_cons.mp hv with rfl|hv
  ·exact⟨k,t,rfl⟩
  ·exact k2 v hv
theorem uZ {X:Cx}(hc:X.calm=true):dP X (.builtin "sorted") C9:=by
 rintro pins s σ H xs us Q I rv ⟨v,d,kvs,ks,rfl,hv,hH,hk,FU,q⟩
 obtain⟨u,rfl,ru⟩:=rv.one
 cases (show u=Value.ref v from ru)
 obtain⟨z,hd,vs,rel,dd⟩:=uS I.aX hH
 obtain⟨ep,PD⟩:=dd.dictAt
 have Lz:s.heap.IsItemsView v d:=(I.aX v _ hv).1
 have JC:kvs.length=ks.length:=by have h1:=congrArg List.length hk;simpa using h1
 have Bp:vs.length=ks.length:=by have h2:=rel.length;omega
 have nd:ks.Nodup:=by
  obtain⟨_,_,_,_,_,_,_,_,QE⟩:=dd
  have e:vs.map (·.1)=kvs.map (·.1):=EA rel
  rw[e,hk]at QE
  exact(List.pairwise_map.mp QE).imp λ h z=>h (congrArg Sum.inr z)
 have hh:=I.ok.hd hc
 refine PySem.Calls.call_function_entry kind_sorted plain_sorted entry_sorted (args_sorted1 _) ?_
 unfold Builtin.«sorted»
 refine wpAny_bind (m:=checkCount "sorted" 1 1 _) (wpAny_pure ?_)
 refine wpAny_bind (PySem.W.kdx_collect (A:=X.A.in1) (knd:=bx X.prog X.w) (kvs:=vs) (ep:=ep) hh Lz PD (by rw[<-rel.length];exact z) λ h1 tk as JB JG hG=>?_)
 have hl:(as.map Value.ref).length=ks.length:=by rw[List.length_map,JG,Bp]
 have ndA:as.Nodup:=hG.rise.imp λ h=>Nat.ne_of_lt h
 have tup:∀ j (hj:j < ks.length),∃ (a:Addr) (t:Tok) (x:Value) (y:V),as[j]? = some a/\kvs[j]? = some (Sum.inr ks[j],y)/\RelV y x/\h1.get? a=some { cls:=.type "tuple",data:=.seq #[.str ks[j] t,x] }:=λ j hj=>by
  have IS:j < as.length:=by rw[JG,Bp];exact hj
  obtain⟨key,k,x,e1,e2,e3⟩:=hG.pairs j as[j] (List.getElem?_eq_getElem IS)
  have ek:k=Sum.inr ks[j]:=wY rel hk e1 hj
  subst ek
  obtain⟨t,et⟩:=Value.isStrOf_shape (show Value.isStrOf ks[j] key=true from e2)
  subst et
  obtain⟨y,e4,e5⟩:=Lk rel e1
  exact⟨as[j],t,x,y,List.getElem?_eq_getElem IS,e4,e5,e3⟩
 refine wpAny_bind (wpAny_newList ?_ (by rw[hl];exact Nat.le_of_lt (bZ (by omega))))
 have hoL:(h1.push (seqObj "list" (as.map Value.ref).toArray 0)).get? h1.objs.size=some (seqObj "list" (as.map Value.ref).toArray 0):=Heap.get?_push_size _ rfl
 have tupP:∀ h':Heap,(∀ b o,b≠h1.objs.size->(h1.push (seqObj "list" (as.map Value.ref).toArray 0)).get? b=some o->h'.get? b=some o)->∀ b o,h1.get? b=some o->h'.get? b=some o:=λ h' kk b o e=>kk b o (Nat.ne_of_lt (Heap.lt_size e)) (Heap.get?_push_of_some _ e)
 refine wpAny_bind (wpAny_holding (wpAny_call_entry slot_list_sort ⟨_,hoL,rfl⟩ entry_list_sort (Mm.zC (O:=oS) (key:=λ i=>Fg (ks.getD i ⟨#[]⟩)) (κ:=tuples' true) hoL (by rw[hl];exact FU) ?_ ?_ λ p p1 p2 p3=>⟨_,rfl,?_⟩) (args_list_sort _)))
 ·intro h' h2 kk Q' hq
  obtain⟨fs,k1,k2,k3⟩:=pP (h:=h') (as:=as) λ j a ha=>by
   have hj:j < ks.length:=by rw[<-Bp,<-JG];exact(List.getElem?_eq_some_iff.mp ha).1
   obtain⟨b,t,x,y,e1,_,_,e2⟩:=tup j hj
   rw[ha]at e1;cases e1
   exact⟨_,t,x,tupP h' kk _ _ e2⟩
  refine PySem.W.kat_kind (T:=.type "str") k1 (by rw[k3,JG,Bp];rw[hl]at h2;omega) (λ v hv=>?_) (by decide) ?_
  ·obtain⟨x,t,rfl⟩:=k2 v hv
   exact PySem.W.Looks.of_pure rfl
  ·have e:(Value.type "str" != Value.type "tuple")=true:=by decide
   rw[e];exact hq
 ·intro h' kk i j C hi hj hC
  rw[hl]at hi hj
  obtain⟨a,t,x,y,e1,e2,e3,e4⟩:=tup i hi
  obtain⟨b,t',x',y',f1,f2,f3,f4⟩:=tup j hj
  have g1:(as.map Value.ref).getD i Value.none=.ref a:=by rw[List.getD_eq_getElem?_getD,List.getElem?_map,e1];rfl
  have g2:(as.map Value.ref).getD j Value.none=.ref b:=by rw[List.getD_eq_getElem?_getD,List.getElem?_map,f1];rfl
  rw[g1,g2]
  have c1:Fg (ks.getD i ⟨#[]⟩)=Fg ks[i]:=by rw[List.getD_eq_getElem?_getD,List.getElem?_eq_getElem hi];rfl
  have c2:Fg (ks.getD j ⟨#[]⟩)=Fg ks[j]:=by rw[List.getD_eq_getElem?_getD,List.getElem?_eq_getElem hj];rfl
  have hC:C (oS.blt (Fg ks[i]) (Fg ks[j])) { s with heap:=h',toks:=tk }:=by rw[<-c1,<-c2];exact hC
  refine PySem.W.kat_lt (tupP h' kk _ _ e4) rfl (tupP h' kk _ _ f4) rfl ?_
  refine PySem.W.kat_cons (eqBool_str ?_)
  by_cases qf:i=j
  ·subst qf
   rw[e1]at f1;cases f1
   rw[e4]at f4
   injection f4 with f4
   injection f4 with _ _ f4 _
   injection f4 with f4 _
   have f4:=congrArg Array.toList f4
   simp at f4
   obtain⟨_,rfl⟩:=f4
   rw[beq_self_eq_true]
   refine PySem.W.kat_yes (PySem.W.kat_cons (uO (PySem.W.kat_yes (PySem.W.kat_nil ?_))))
   rw[oS.irrefl]at hC
   exact hC
  ·have EO:(ks[i] == ks[j])=false:=by
    rw[beq_eq_false_iff_ne]
    exact λ z=>qf ((List.getElem_inj nd).mp z)
   rw[EO]
   exact PySem.W.kat_no (strKind_oneLt _ _ _ _ _ _ _ _ _ rfl rfl hC)
 ·-- To new heap
  let ts:List HO:=(List.range ks.length).map λ j=>.tup [.str (ks.getD j ⟨#[]⟩),((kvs[j]?).map (·.2)).getD .aC]
  let ws:List V:=p.toList.map λ i=>.ref (as.getD i 0)
  let H':Hp:=λ b=>if b=h1.objs.size then some (.lst ws) else if b∈as then ts[as.idxOf b]? else H b
  have hold:∀ b u,s.heap.get? b=some u->b≠h1.objs.size:=λ b u e=>Nat.ne_of_lt (Heap.lt_size (JB b u e))
  have PF:∀ b∈as,b < h1.objs.size:=λ b hb=>hG.there hb
  have yv:∀ b u,s.heap.get? b=some u->b∉as:=λ b u e hb=>absurd (Heap.lt_size e) (Nat.not_lt.mpr (Nat.le_of_lt (hG.above b hb)))
  have FP:∀ b,(∀ u,s.heap.get? b≠some u)->H b=none:=λ b hb=>by
   cases q0:H b with
   | none=>rfl
   | some o=>obtain⟨u,hu⟩:=(I.aX _ o q0).mW;exact absurd hu (hb u)
  have e0:H h1.objs.size=none:=FP _ λ u e=>hold _ u e rfl
  have S_:∀ b∈as,H b=none:=λ b hb=>FP _ λ u e=>yv _ u e hb
  have eH:∀ b o,H b=some o->H' b=some o:=λ b o e=>by
   obtain⟨u,hu⟩:=(I.aX _ o e).mW
   show(if b=h1.objs.size then some (.lst ws) else if b∈as then ts[as.idxOf b]? else H b)=_
   rw[if_neg (hold b u hu),if_neg (yv b u hu)];exact e
  have S9:∀ j (hj:j < ks.length),∃ a y,as[j]? = some a/\kvs[j]? = some (Sum.inr ks[j],y)/\H' a=some (.tup [.str ks[j],y]):=λ j hj=>by
   obtain⟨a,t,x,y,g1,g2,g3,g4⟩:=tup j hj
   obtain⟨IS,ga⟩:=List.getElem?_eq_some_iff.mp g1
   refine⟨a,y,g1,g2,?_⟩
   have ma:a∈as:=List.mem_of_getElem? g1
   show(if a=h1.objs.size then some (.lst ws) else if a∈as then ts[as.idxOf a]? else H a)=_
   rw[if_neg (Nat.ne_of_lt (PF a ma)),if_pos ma]
   have:as.idxOf a=j:=by rw[<-ga];exact Bm ndA IS
   rw[this]
   simp[ts,hj,g2]
  have pr:p.toList.Perm (List.range ks.length):=by
   have:=Array.perm_iff_toList_perm.mp p3
   rw[hl]at this
   simpa using this
  have pl:p.toList.length=ks.length:=by rw[pr.length_eq,List.length_range]
  have Qt:∀ i∈p.toList,i < ks.length:=λ i hi=>by simpa using pr.mem_iff.mp hi
  have Rz:p.toList.map (λ i=>ks.getD i ⟨#[]⟩)=av ks:=by
   refine je ?_ ?_
   ·have h5:=pr.map (λ i=>ks.getD i ⟨#[]⟩)
    have e5:(List.range ks.length).map (λ i=>ks.getD i ⟨#[]⟩)=ks:=by
     apply List.ext_getElem
     ·simp
     ·intro i h6 h7
      simp[h7]
    rw[e5]at h5
    exact h5
   ·rw[List.pairwise_map,List.pairwise_iff_getElem]
    intro i j hi hj qf
    rw[mC]
    have:=p1 i j (Nat.le_of_lt qf) (by rw[hl,<-pl];exact hj)
    unfold Mm.fi at this
    have gi:p.getD i 0=p.toList[i]:=by rw[Array.getD_eq_getD_getElem?,<-Array.getElem?_toList,List.getElem?_eq_getElem hi];rfl
    have gj:p.getD j 0=p.toList[j]:=by rw[Array.getD_eq_getD_getElem?,<-Array.getElem?_toList,List.getElem?_eq_getElem hj];rfl
    rw[gi,gj]at this
    exact this
  refine wpAny_pure ⟨_,rfl,.ref h1.objs.size,H',?_,rfl,?_⟩
  ·obtain⟨ec,Px⟩:=sortedHeap_at hoL (out:=List.toArray (p.toList.map λ i=>(as.map Value.ref).getD i Value.none))
   have keep:∀ b u,h1.get? b=some u->(sortedHeap (h1.push (seqObj "list" (as.map Value.ref).toArray 0)) h1.objs.size (as.map Value.ref) (List.toArray (p.toList.map λ i=>(as.map Value.ref).getD i Value.none))).get? b=some u:=λ b u e=>by
    rw[sortedHeap_old (Nat.ne_of_lt (Heap.lt_size e)) (by rw[Heap.size_push];exact Nat.lt_succ_of_lt (Heap.lt_size e))]
    exact Heap.get?_push_of_some _ e
   refine I.grown (λ b u e=>keep b u (JB b u e)) (λ b u e=>?_) λ b o e z=>?_
   ·show(if b=h1.objs.size then some (.lst ws) else if b∈as then ts[as.idxOf b]? else H b)=_
    rw[if_neg (hold b u e),if_neg (yv b u e)]
   ·have z:(if b=h1.objs.size then some (.lst ws) else if b∈as then ts[as.idxOf b]? else H b)=some o:=z
    by_cases hb:b=h1.objs.size
    ·rw[if_pos hb]at z
     cases z
     subst hb
     refine⟨by show(p.toList.map λ i=>V.ref (as.getD i 0)).length<=_;rw[List.length_map,pl];exact Nat.le_of_lt (bZ (by omega)),p.toList.map λ i=>(as.map Value.ref).getD i Value.none,ec,?_,?_⟩
     ·have:∀ (l:List Nat),(∀ i∈l,i < ks.length)->Vals (l.map λ i=>V.ref (as.getD i 0)) (l.map λ i=>(as.map Value.ref).getD i Value.none):=by
       intro l
       induction l with
       | nil=>intro _;exact .nil
       | cons i r ih=>
        intro hi
        refine .cons ?_ (ih λ x hx=>hi x (List.mem_cons_of_mem _ hx))
        have h8:i < as.length:=by rw[JG,Bp];exact hi i List.mem_cons_self
        show(as.map Value.ref).getD i Value.none=Value.ref (as.getD i 0)
        simp[h8]
      exact this _ Qt
     ·rw[Px]
    ·rw[if_neg hb]at z
     by_cases PB:b∈as
     ·rw[if_pos PB]at z
      obtain⟨j,hj,gj⟩:=List.getElem_of_mem PB
      have FQ:j < ks.length:=by rw[<-Bp,<-JG];exact hj
      obtain⟨a,t,x,y,g1,g2,g3,g4⟩:=tup j FQ
      rw[List.getElem?_eq_getElem hj,gj]at g1
      cases g1
      rw[show as.idxOf b=j by rw[<-gj];exact Bm ndA hj]at z
      have:o=.tup [.str ks[j],y]:=by
       have:ts[j]? = some (.tup [.str ks[j],y]):=by simp[ts,FQ,g2]
       rw[this]at z
       exact(Option.some.inj z).symm
      subst this
      exact⟨by show 2<=sizeLine;decide,[.str ks[j] t,x],.cons ⟨t,rfl⟩ (.cons g3 .nil),_,keep _ _ g4,rfl,0,rfl⟩
     ·rw[if_neg PB]at z
      obtain⟨u,hu⟩:=(I.aX _ o z).mW
      rw[e]at hu;cases hu
  ·refine q h1.objs.size H' ws e0 eH (λ b hb=>?_) (by show(if h1.objs.size=h1.objs.size then some (HO.lst ws) else _)=_;rw[if_pos rfl]) (by show(p.toList.map _).length=_;rw[List.length_map,pl]) λ j k FQ=>?_
   ·cases q0:H b with
    | none=>rfl
    | some o=>rw[eH b o q0]at hb;cases hb
   ·rw[<-Rz,List.getElem?_map]at FQ
    cases NC:p.toList[j]? with
    | none=>rw[NC]at FQ;cases FQ
    | some i=>
     rw[NC]at FQ
     have hi:i < ks.length:=Qt i (List.mem_of_getElem? NC)
     have IQ:ks[i]=k:=by
      have:ks.getD i ⟨#[]⟩=k:=Option.some.inj FQ
      rw[<-this];simp[hi]
     obtain⟨a,y,g1,g2,g3⟩:=S9 i hi
     rw[IQ]at g2 g3
     refine⟨a,y,?_,CL hk nd g2,S_ a (List.mem_of_getElem? g1),g3⟩
     show(p.toList.map λ i=>V.ref (as.getD i 0))[j]? = _
     rw[List.getElem?_map,NC]
     show some (V.ref (as.getD i 0))=_
     rw[List.getD_eq_getElem?_getD,g1];rfl
end L2
namespace Mm
open PySem L2
def gB:List (Key × AV)->Option (List Str)
 | []=>some []
 | (.inr x,_) :: r=>(gB r).map (x :: ·)
 | _ :: _=>none
theorem jO:∀ {kvs:List (Key × AV)}{ks:List Str},gB kvs=some ks->kvs.map (·.1)=ks.map Sum.inr
 | [],_,h=>by cases h;rfl
 | (.inr x,v) :: r,ks,h=>by
  have h:(gB r).map (x :: ·)=some ks:=h
  cases e:gB r with
  | none=>rw[e]at h;cases h
  | some q=>rw[e]at h;cases h;rw[List.map_cons,jO e];rfl
 | (.inl x,v) :: r,ks,h=>by cases h
def lQ (m:Ev):eG:=λ env s=>(m env s).bind λ v s1=>match v with
 | .ref i=>need (gA s1 i) λ kvs=>need (gB kvs) λ ks=>if ks.length < 64 then .ok ((av ks).map .str) s1 else .bad
 | _=>.bad
def nz (m:Ev):eG:=λ env s=>(m env s).bind λ v s1=>match v with
 | .ref i=>need (gA s1 i) λ kvs=>need (gB kvs) λ ks=>if ks.length < 64 then .ok ((av ks).map λ k=>.tup [.str k,(aV kvs (.inr k)).getD .aC]) s1 else .bad
 | _=>.bad
section
variable {T:Tx}{XE:gJ}{X:Cx}{pos:Pos}
theorem AZ {e:Expr}{p:Pos}{m:Ev}(hm:X.mg "sorted"=none)(h:PE X e (tE T XE m)) (LM:X.calm=true:=by rfl)(hg:Gl X "sorted":=by rfl)(he:starEach [e] X.env=(false,eval e X.env) :: starEach [] X.env:=by rfl) (fj:(backTo pos (starEach [] X.env)).any (·.1)=false:=by rfl) :
  PE X (.Call (.Name "sorted" p) [e] [] pos) (tL T XE (lQ m)):=
 PE.imp (eU (wa LM) hg hm PyProof.Rows.boot_sorted (cb h fF he) (by decide) (by decide) he fj) λ σ H Q ⟨ρ,env,s,hs,he,ho⟩=>step hs he ho λ v s1 ρ1 H1 x _ u1 aT cz aN az=>by
  cases v with
  | ref i=>
   obtain⟨kvs,e1,az⟩:=az.ar
   obtain⟨ks,e2,az⟩:=az.ar
   obtain⟨hl,az⟩:=az.a9
   obtain⟨a,qs,rfl,ea,h1,q1,q2⟩:=aT.qy (fM e1) aN
   exact⟨a,qs,ks,rfl,h1,by rw[<-q1];exact jO e2,hl,λ l hl=>az.lst aT hl (aO.map (λ _=>gQ) _)⟩
  | _=>exact az.elim
theorem AY {e:Expr}{p ap cp:Pos}{m:Ev}(hm:X.mg "sorted"=none)(h:PE X e (tE T XE m)) (LM:X.calm=true:=by rfl)(hg:Gl X "sorted":=by rfl)
  (kj:attributeBase e "items" X.env (eval e X.env)=eval e X.env:=by rfl) (ki:(ap.endLine == cp.line)=true:=by rfl)
  (he:starEach [.Call (.Attribute e "items" ap) [] [] cp] X.env=(false,eval (.Call (.Attribute e "items" ap) [] [] cp) X.env) :: starEach [] X.env:=by rfl) (fj:(backTo pos (starEach [] X.env)).any (·.1)=false:=by rfl) :
  PE X (.Call (.Name "sorted" p) [.Call (.Attribute e "items" ap) [] [] cp] [] pos) (tL T XE (nz m)):=
 PE.imp (eU (uZ LM) hg hm PyProof.Rows.boot_sorted (cb (Hl PySem.F.plainAttrs_dict PySem.F.slot_dict_items PySem.F.type_dict_items AL h kj ki) fF he) (by decide) (by decide) he fj) λ σ H Q ⟨ρ,env,s,hs,he,ho⟩=>
  step hs he ho λ v s1 ρ1 H1 x _ u1 aT cz aN az=>by
   cases v with
   | ref i=>
    obtain⟨kvs,e1,az⟩:=az.ar
    obtain⟨ks,e2,az⟩:=az.ar
    obtain⟨hl,az⟩:=az.a9
    obtain⟨a,qs,rfl,ea,h1,q1,q2⟩:=aT.qy (fM e1) aN
    refine⟨.inr (.inr (.inl ⟨rfl,.inl ⟨qs,h1⟩⟩)),a,qs,rfl,rfl,h1,λ v hv=>?_⟩
    refine⟨v,a,qs,ks,rfl,aw,by rw[ah (aJ h1 hv)];exact h1,by rw[<-q1];exact jO e2,hl,λ l H' ws QP k1 k2 k3 k4 k5=>?_⟩
    have old:∀ b o,H1 b=some o->H' b=some o:=λ b o e=>k1 b o (by rw[ah (aJ e hv)];exact e)
    have LH:H1 l=none:=by
     by_cases Bp:l=v
     ·rw[Bp];exact hv
     ·rw[ah Bp]at QP;exact QP
    have up:Up ρ1 H1 ρ1 H':=⟨⟨List.prefix_rfl,λ b xs e=>old b _ e,λ b o u e=>old b _ e⟩,λ b o e n=>⟨old b o e,n⟩,λ b e=>by
     have:=k2 b e
     by_cases Q0:b=v
     ·rw[Q0];exact hv
     ·rw[ah Q0]at this;exact this⟩
    have fD:SR T ρ1 s1 H':=aT.up up.toGr λ b hb=>by
     obtain⟨u,hu⟩:=aT.in hb
     rw[hu];exact old b u hu
    refine az ρ1 H' (.ref l) up fD ⟨l,ws,rfl,LH,aT.out LH,k3,?_⟩
    have len:(av ks).length=ws.length:=by rw[(gU ks).length_eq,k4]
    have all:∀ (Kl:List Str) (CH:List V),Kl.length=CH.length->(∀ (j:Nat) (k:Str),Kl[j]? = some k->∃ a' x,CH[j]? = some (.ref a')/\gR qs (Sum.inr k)=some x/\H' a'=some (.tup [.str k,x]))->aO T ρ1 H' (Kl.map λ k=>AV.tup [.str k,(aV kvs (.inr k)).getD .aC]) CH:=by
     intro Kl
     induction Kl with
     | nil=>intro CH sN _;cases CH with|nil=>exact .nil|cons _ _=>simp at sN
     | cons k r ih=>
      intro CH sN g
      cases CH with
      | nil=>simp at sN
      | cons w CH=>
       obtain⟨a',x,f1,f2,f3⟩:=g 0 k rfl
       simp at f1
       subst f1
       refine .cons (jL (hW.of f3) (.cons gQ (.one ?_))) (ih CH (by simpa using sN) λ j k' hj=>g (j+1) k' (by simpa using hj))
       cases ev:aV kvs (.inr k) with
       | none=>rw[(dY (.inr k) q1 q2).2 ev]at f2;cases f2
       | some v'=>
        obtain⟨x',ex,kx⟩:=(dY (.inr k) q1 q2).1 v' ev
        rw[f2]at ex;cases ex
        exact VR.up up kx
    exact all _ _ len λ j k hj=>by
     obtain⟨a',x,f1,f2,_,f3⟩:=k5 j k hj
     exact⟨a',x,f1,f2,f3⟩
   | _=>exact az.elim
end
end Mm
namespace Ro
open PySem L2 Mm
def Q6 (env:En):Nat:=match (env[(1:Nat)]?:Option (Option AV)) with
 | some (some (.int i))=>i.natAbs+1
 | _=>0
def FY (env:En):Nat:=match (env[(4:Nat)]?:Option (Option AV)) with
 | some (some (.int i))=>i.natAbs+1
 | _=>0
def kM:AV:=.tup [.int 0,.int 1]
noncomputable def jx:Ms:=
 (aD (bY 1 (aP (Cr wF (Ez (Es (mv 0) oN (oS (mc (.int 63))))))))
 (aD (gF (L4 (cB (ag dQ (mv 1) (aP (bS ae))))) (bY 1 (aP (bS (aa (mc (.int 7)) ae)))) cA)
 (bq (jC [((mc (.str "cells")),(mv 1)),((mc (.str "turn")),(mc (.int 0)))]))))
noncomputable def dF:List AV->S->R AV:=eL 2 jx
noncomputable def kF:Ms:=
 (aD (bY 2 (ag du (ag bh (mv 0) (mc (.str "turn"))) (mc (.int 1))))
 (aD (jS (mv 0) (mc (.str "turn")) (mv 2))
 (aD (bY 3 (ag h_ (mv 2) (tN ie (aa (ag bh (mv 0) (mc (.str "cells"))) ae))))
 (aD (bY 4 (ag br (ag bh (mv 0) (mc (.str "cells"))) (mv 3)))
 (aD (gF (cB (ag As (mv 4) (ag wN (mc (.int 10)) (mc (.int 18))))) (aD (vx (tN jW (aa (mv 4) (aa (mv 1) ae))) (gT 2 (aU (kq (ag bh (mv 0) (mc (.str "cells"))) (mv 3)) (aU (gN 6) g7))))
 (bq (mv 6))) cA)
 (aD (bY 5 (ag h_ (ag jU (ag du (ag du (ag h_ (mv 4) (mc (.int 2147483629))) (ag jU (ag jU (mv 2) (mv 2)) (mc (.int 7919)))) (mc (.int 11))) (mc (.int 48271))) (mc (.int 2147483647))))
 (aD (bY 5 (ag h_ (ag jU (mv 5) (mv 5)) (mc (.int 2147483587))))
 (bq (ag h_ (ag mZ (ag h_ (ag jU (ag du (mv 5) (ag jU (mv 2) (mc (.int 104729)))) (mc (.int 39373))) (mc (.int 2147483629))) (mc (.int 64))) (mv 1))))))))))
noncomputable def aQ:List AV->S->R AV:=eL 7 kF
noncomputable def dA (rf:List AV->S->R AV):Ms:=
 (aD (gF (cB (ag jV (mv 1) (mc .aC))) (bq (ag jV (mv 0) (mc .aC))) cA)
 (aD (gF (Cv (cT (cC (fQ "list") (mv 1))) (cT (cC (fQ "tuple") (mv 1)))) (aD (gF (cB (ag pq (cC (fQ "list") (mv 0)) (cC (fQ "list") (mv 1)))) (bq (mc (.bl false))) cA)
 (aD (gF (Cv (cB (ag pq (cC (fQ "tuple") (mv 0)) (cC (fQ "tuple") (mv 1)))) (cB (ag pq (tN ie (aa (mv 0) ae)) (tN ie (aa (mv 1) ae))))) (bq (mc (.bl false))) cA)
 (bq (Cr zL (cg [("_law_one",none),("_law_other",none)] (zA (mv 0) (mv 1)) (gT 2 (aU (gN 0) (aU (gN 1) g7))) jt (aE 2 rf (aa (mv 0) (aa (mv 1) ae)))))))) cA)
 (aD (gF (cT (cC (fQ "str") (mv 1))) (bq (sI (cC (fQ "str") (mv 0)) (ag dQ (mv 0) (mv 1)))) cA)
 (bq (sI (cC (fQ "int") (mv 0)) (sI (cC qQ (cC (fQ "bool") (mv 0))) (ag dQ (mv 0) (mv 1))))))))
noncomputable def au:Nat->List AV->S->R AV
 | 0=>λ _ _=>.bad
 | n+1=>eL 2 (dA (au n))
noncomputable def iP:Ms:=
 (aD (n9 3 4 (aa (tN qS (aa (mv 0) ae)) (aa (tN qS (aa (mv 1) ae)) ae)))
 (aD (C5 (λ env _=>FY env) (cB (ag vG (mv 4) (mc (.int 0)))) (n9 3 4 (aa (mv 4) (aa (ag h_ (mv 3) (mv 4)) ae))))
 (aD (bY 2 (Jx (cB (ag Aq (mv 1) (mc (.int 0)))) (cC wO (mc (.int 1))) (mc (.int 1))))
 (bq (iG (aa (ag mZ (ag jU (mv 2) (mv 0)) (mv 3)) (aa (ag mZ (ag jU (mv 2) (mv 1)) (mv 3)) ae)))))))
noncomputable def cy:List AV->S->R AV:=eL 5 iP
noncomputable def jv:Ms:=
 (aD (bY 2 (aP (By "str" mf (mc (.str "b aa zebra c quartzes ab m knows d mm likes z ba abcdefgh y zz e x f g hh jj kk pave")) (aa (mc (.str " ")) ae))))
 (bq (aP (cg [("_law_turn",none),("_law_some",some 2),("_law_state",some 0)] (rX (aa (mv 1) ae)) (gN 0) jt (pL "list" uk (mv 1) (aa (aE 2 aQ (aa (mv 2) (aa (tN ie (aa (mv 1) ae)) ae))) ae))))))
noncomputable def dE:List AV->S->R AV:=eL 3 jv
noncomputable def kG:Ms:=
 (aD (bY 1 (FX (ag br (aP (bS (aa (mc (.int 2)) (aa (mc (.int 3)) (aa (mc (.int 4)) (aa (mc (.int 5)) (aa (mc (.int 10)) (aa (ag du (mc (.int 1)) (aE 2 aQ (aa (mv 0) (aa (mc (.int 60)) ae)))) ae)))))))) (aE 2 aQ (aa (mv 0) (aa (mc (.int 6)) ae))))))
 (bq (aE 2 cy (aa (ag du (mc (.int 1)) (aE 2 aQ (aa (mv 0) (aa (mv 1) ae)))) (aa (mv 1) ae)))))
noncomputable def dz:List AV->S->R AV:=eL 2 kG
end Ro
namespace Mm
open PySem L2
theorem wA {n:Nat}(h:n<=1000):n<=sizeLine:=Nat.le_of_lt (bZ h)
def R.wp {α:Type}:R α->(α->S->Prop)->Prop
 | .ok a s,Q=>Q a s
 | _,_=>False
def RS.wp:RS->(En->S->Prop)->(AV->S->Prop)->Prop
 | .nx e s,N,_=>N e s
 | .rt v s,_,T=>T v s
 | _,_,_=>False
theorem R.wp.mono {α:Type}{m:R α}{Q Q':α->S->Prop}(h:m.wp Q)(k:∀ a s,Q a s->Q' a s):m.wp Q':=by
 cases m with
 | ok a s=>exact k a s h
 | ex c s=>exact h.elim
 | bad=>exact h.elim
theorem RS.wp.mono {m:RS}{N N':En->S->Prop}{T T':AV->S->Prop}(h:m.wp N T)(k:∀ a s,N a s->N' a s)(l:∀ a s,T a s->T' a s):m.wp N' T':=by
 cases m with
 | nx a s=>exact k a s h
 | rt a s=>exact l a s h
 | _=>exact h.elim
theorem R.wp.get {α:Type}{m:R α}{Q:α->S->Prop}(h:m.wp Q):∃ a s,m=.ok a s/\Q a s:=by
 cases m with
 | ok a s=>exact⟨a,s,rfl,h⟩
 | ex c s=>exact h.elim
 | bad=>exact h.elim
theorem R.wp.eq {α:Type}{m:R α}{v:α}{s:S}(h:m.wp (λ a s'=>a=v/\s'=s)):m=.ok v s:=by
 obtain⟨a,s',e,rfl,rfl⟩:=h.get;exact e
theorem oW {α:Type}(a:α)(s:S)(Q:α->S->Prop):(R.ok a s).wp Q=Q a s:=rfl
theorem wp_bind {α β:Type}(m:R α)(f:α->S->R β)(Q:β->S->Prop):(m.bind f).wp Q=m.wp λ a s=>(f a s).wp Q:=by
 cases m<;>rfl
theorem bU {α:Type}(m:R α)(f:α->S->RS)(N:En->S->Prop)(T:AV->S->Prop):(m.dO f).wp N T=m.wp λ a s=>(f a s).wp N T:=by
 cases m<;>rfl
theorem wx {α:Type}(m:R α)(Q:α->S->Prop):m.calm.wp Q=m.wp Q:=by
 cases m<;>rfl
theorem jB {α:Type}(c:Prop){_:Decidable c}(m:R α)(Q:α->S->Prop):(if c then m else .bad).wp Q=(c/\m.wp Q):=by
 by_cases h:c
 ·rw[if_pos h];exact propext ⟨λ k=>⟨h,k⟩,λ k=>k.2⟩
 ·rw[if_neg h];exact propext ⟨λ k=>k.elim,λ k=>(h k.1).elim⟩
theorem zd (c:Prop){_:Decidable c}(m:RS)(N:En->S->Prop)(T:AV->S->Prop):(if c then m else .bad).wp N T=(c/\m.wp N T):=by
 by_cases h:c
 ·rw[if_pos h];exact propext ⟨λ k=>⟨h,k⟩,λ k=>k.2⟩
 ·rw[if_neg h];exact propext ⟨λ k=>k.elim,λ k=>(h k.1).elim⟩
theorem oz (c:Prop){_:Decidable c}{α:Type}(m n:R α)(Q:α->S->Prop):(if c then m else n).wp Q=if c then m.wp Q else n.wp Q:=by
 by_cases h:c
 ·rw[if_pos h,if_pos h]
 ·rw[if_neg h,if_neg h]
theorem zc (c:Prop){_:Decidable c}(m n:RS)(N:En->S->Prop)(T:AV->S->Prop):(if c then m else n).wp N T=if c then m.wp N T else n.wp N T:=by
 by_cases h:c
 ·rw[if_pos h,if_pos h]
 ·rw[if_neg h,if_neg h]
theorem l6 {α γ:Type}(x:γ)(f:γ->R α)(Q:α->S->Prop):(need (some x) f).wp Q=(f x).wp Q:=rfl
theorem af:(([]:List AV).length<=sizeLine)=True/\(∀ a:AV,([a].length<=sizeLine)=True)/\(∀ a b:AV,([a,b].length<=sizeLine)=True)/\(∀ a b c:AV,([a,b,c].length<=sizeLine)=True)/\
  (∀ a b c d e f:AV,([a,b,c,d,e,f].length<=sizeLine)=True)/\
  (([]:List AV).length=0)=True/\(∀ a:AV,([a].length=1)=True)/\(∀ a b:AV,([a,b].length=2)=True)/\(∀ a b c:AV,([a,b,c].length=3)=True):=by
 refine⟨?_,?_,?_,?_,?_,?_,?_,?_,?_⟩<;>intros<;>first|exact eq_true rfl|exact eq_true (wA (by show(_:Nat)<=1000;simp))
theorem WS :
  (∀ (a b:Ms) (env:En) (s:S) (N:En->S->Prop) (T:AV->S->Prop),(aD a b env s).wp N T=(a env s).wp (λ e s1=>(b e s1).wp N T) T)/\
  (∀ (i:Nat) (m:Ev) (env:En) (s:S) (N:En->S->Prop) (T:AV->S->Prop),(bY i m env s).wp N T=(m env s).wp λ v s1=>N (env.set i (some v)) s1)/\
  (∀ (m:Ev) (env:En) (s:S) (N:En->S->Prop) (T:AV->S->Prop),(bq m env s).wp N T=(m env s).wp T)/\
  (∀ (c:Eb) (a b:Ms) (env:En) (s:S) (N:En->S->Prop) (T:AV->S->Prop),(gF c a b env s).wp N T=(c env s).wp λ k s1=>if k=true then (a env s1).wp N T else (b env s1).wp N T)/\
  (∀ (m:Ev) (env:En) (s:S) (N:En->S->Prop) (T:AV->S->Prop),(bQ m env s).wp N T=(m env s).wp λ _ s1=>N env s1)/\
  (∀ (m:Ev) (g:Mt) (env:En) (s:S) (N:En->S->Prop) (T:AV->S->Prop),(vx m g env s).wp N T=(m env s).wp λ v s1=>(g v env s1).wp N T)/\
  (∀ (i j:Nat) (a b:Ev) (env:En) (s:S) (N:En->S->Prop) (T:AV->S->Prop),(n9 i j (aa a (aa b ae)) env s).wp N T=(a env s).wp λ v s1=>(b env s1).wp λ w s2=>N ((env.set i (some v)).set j (some w)) s2)/\
  (∀ (env:En) (s:S) (N:En->S->Prop) (T:AV->S->Prop),(cA env s).wp N T=N env s)/\
  (∀ (src:Src) (eS:Mt) (b:Ms) (env:En) (s:S) (N:En->S->Prop) (T:AV->S->Prop),(ud src eS b env s).wp N T=(src env s).wp λ p s1=>(forL eS b p.2 p.1 env s1).wp N T)/\
  (∀ (d y v:Ev) (env:En) (s:S) (N:En->S->Prop) (T:AV->S->Prop),(jS d y v env s).wp N T=(v env s).wp λ a s1=>(d env s1).wp λ b s2=>(y env s2).wp λ c s3=>(putD a b c env s3).wp N T)/\
  (∀ (i:Nat) (v:AV) (env:En) (s:S) (N:En->S->Prop) (T:AV->S->Prop),(gN i v env s).wp N T=N (env.set i (some v)) s)/\
  (∀ (n:Nat) (r:xM) (vs:List AV) (env:En) (s:S) (N:En->S->Prop) (T:AV->S->Prop),(gT n r (.tup vs) env s).wp N T=(vs.length=n/\(r vs env s).wp N T))/\
  (∀ (i:Nat) (r:xM) (v:AV) (w:List AV) (env:En) (s:S) (N:En->S->Prop) (T:AV->S->Prop),(aU (gN i) r (v :: w) env s).wp N T=(r w (env.set i (some v)) s).wp N T)/\
  (∀ (env:En) (s:S) (N:En->S->Prop) (T:AV->S->Prop),(g7 [] env s).wp N T=N env s)/\
  (∀ (o i:Ev) (r:xM) (v:AV) (w:List AV) (env:En) (s:S) (N:En->S->Prop),(aU (kq o i) r (v :: w) env s).wp N (λ _ _=>False)=(kq o i v env s).wp (λ e s1=>(r w e s1).wp N (λ _ _=>False)) (λ _ _=>False))/\
  (∀ (n:Nat) (b:Ms) (v:AV) (s:S) (Q:AV->S->Prop),(eL n b [v] s).wp Q=(b (some v :: List.replicate (n - 1) none) s).wp (λ _ s1=>Q .aC s1) Q)/\
  (∀ (n:Nat) (b:Ms) (v w:AV) (s:S) (Q:AV->S->Prop),(eL n b [v,w] s).wp Q=(b (some v :: some w :: List.replicate (n - 2) none) s).wp (λ _ s1=>Q .aC s1) Q)/\
  (∀ (n:Nat) (b:Ms) (v w x:AV) (s:S) (Q:AV->S->Prop),(eL n b [v,w,x] s).wp Q=(b (some v :: some w :: some x :: List.replicate (n - 3) none) s).wp (λ _ s1=>Q .aC s1) Q):=by
 refine⟨?_,?_,?_,?_,?_,?_,?_,?_,?_,?_,?_,?_,?_,?_,?_,?_,?_,?_⟩<;>intros
 ·rename_i a b env s N T;show(match a env s with|.nx e s1=>b e s1|r=>r).wp N T=_;cases a env s<;>rfl
 ·unfold bY;rw[bU];rfl
 ·unfold bq;rw[bU];rfl
 ·unfold gF;rw[bU];congr 1;funext k s1;exact zc _ _ _ _ _
 ·unfold bQ;rw[bU];rfl
 ·unfold vx;rw[bU]
 ·rename_i i j a b env s N T
  unfold n9 aa ae
  cases a env s with
  | ok v s1=>
   simp only[ay,oW]
   cases b env s1<;>rfl
  | ex c s1=>rfl
  | bad=>rfl
 ·rfl
 ·unfold ud;rw[bU]
 ·unfold jS;rw[bU];congr 1;funext k s1;rw[bU];congr 1;funext k s1;rw[bU]
 ·rfl
 ·exact zd _ _ _ _
 ·rfl
 ·rfl
 ·rename_i o i r v w env s N
  show(match kq o i v env s with|.nx e s1=>r w e s1|q=>q).wp N _=_
  cases kq o i v env s<;>rfl
 ·rename_i n b v s Q
  show(match b (some v :: List.replicate (n - 1) none) s with|.rt v s1=>R.ok v s1|.nx _ s1=>.ok .aC s1|.ex c s1=>.ex c s1|_=>.bad).wp Q=_
  cases b (some v :: List.replicate (n - 1) none) s<;>rfl
 ·rename_i n b v w s Q
  show(match b (some v :: some w :: List.replicate (n - 2) none) s with|.rt v s1=>R.ok v s1|.nx _ s1=>.ok .aC s1|.ex c s1=>.ex c s1|_=>.bad).wp Q=_
  cases b (some v :: some w :: List.replicate (n - 2) none) s<;>rfl
 ·rename_i n b v w x s Q
  show(match b (some v :: some w :: some x :: List.replicate (n - 3) none) s with|.rt v s1=>R.ok v s1|.nx _ s1=>.ok .aC s1|.ex c s1=>.ex c s1|_=>.bad).wp Q=_
  cases b (some v :: some w :: some x :: List.replicate (n - 3) none) s<;>rfl
def zk (v:AV)(s:S):R (List AV × Gd):=match v with
 | .tup xs=>.ok (xs,[]) s
 | .sq xs=>.ok (xs,[]) s
 | .ref i=>need (ak s i) λ xs=>.ok (xs,[(i,xs)]) s
 | _=>.bad
theorem WE :
  (∀ (v:AV) (env:En) (s:S) (Q:AV->S->Prop),(mc v env s).wp Q=Q v s)/\
  (∀ (op:AV->AV->S->R AV) (a b:Ev) (env:En) (s:S) (Q:AV->S->Prop),(ag op a b env s).wp Q=(a env s).wp λ v s1=>(b env s1).wp λ w s2=>(op v w s2).wp Q)/\
  (∀ (op:AV->S->R AV) (a:Ev) (env:En) (s:S) (Q:AV->S->Prop),(cC op a env s).wp Q=(a env s).wp λ v s1=>(op v s1).wp Q)/\
  (∀ (r:eG) (env:En) (s:S) (Q:AV->S->Prop),(iG r env s).wp Q=(r env s).wp λ vs s1=>vs.length<=sizeLine/\Q (.tup vs) s1)/\
  (∀ (r:eG) (env:En) (s:S) (Q:List AV->S->Prop),(bS r env s).wp Q=(r env s).wp λ vs s1=>vs.length<=sizeLine/\Q vs s1)/\
  (∀ (r:eG) (env:En) (s:S) (Q:AV->S->Prop),(aP r env s).wp Q=(r env s).wp λ vs s1=>Q (.ref s1.length) (s1++[.lst vs]))/\
  (∀ (n:Nat) (F:List AV->S->R AV) (r:eG) (env:En) (s:S) (Q:AV->S->Prop),(aE n F r env s).wp Q=(r env s).wp λ vs s1=>vs.length=n/\(F vs s1).wp Q)/\
  (∀ (a:Ev) (r:eG) (env:En) (s:S) (Q:List AV->S->Prop),(aa a r env s).wp Q=(a env s).wp λ v s1=>(r env s1).wp λ vs s2=>Q (v :: vs) s2)/\
  (∀ (env:En) (s:S) (Q:List AV->S->Prop),(ae env s).wp Q=Q [] s)/\
  (∀ (m:Ev) (env:En) (s:S) (Q:Bool->S->Prop),(cB m env s).wp Q=(m env s).wp λ v s1=>match v with|.bl b=>Q b s1|_=>False)/\
  (∀ (m:Ev) (env:En) (s:S) (Q:Bool->S->Prop),(cT m env s).wp Q=(m env s).wp λ v s1=>match truth v s1 with|some b=>Q b s1|none=>False)/\
  (∀ (a:Eb) (env:En) (s:S) (Q:Bool->S->Prop),(tm a env s).wp Q=(a env s).wp λ c s1=>Q (!c) s1)/\
  (∀ (a b:Eb) (env:En) (s:S) (Q:Bool->S->Prop),(MY a b env s).wp Q=(a env s).wp λ c s1=>if c=true then (b env s1).wp Q else Q false s1)/\
  (∀ (a b:Eb) (env:En) (s:S) (Q:Bool->S->Prop),(Cv a b env s).wp Q=(a env s).wp λ c s1=>if c=true then Q true s1 else (b env s1).wp Q)/\
  (∀ (env:En) (s:S) (Q:Bool->S->Prop),(jt env s).wp Q=Q true s)/\
  (∀ (c:Eb) (a b:Ev) (env:En) (s:S) (Q:AV->S->Prop),(Jx c a b env s).wp Q=(c env s).wp λ k s1=>if k=true then (a env s1).wp Q else (b env s1).wp Q)/\
  (∀ (op:List AV->S->R AV) (r:eG) (env:En) (s:S) (Q:AV->S->Prop),(tN op r env s).wp Q=(r env s).wp λ vs s1=>(op vs s1).wp Q)/\
  (∀ {α:Type}(op:List AV->S->R α) (r:eG) (env:En) (s:S) (Q:α->S->Prop),(Cr op r env s).wp Q=(r env s).wp λ vs s1=>(op vs s1).wp Q)/\
  (∀ (m:Ev) (env:En) (s:S) (Q:List AV->S->Prop),(Ez m env s).wp Q=(m env s).wp λ v s1=>(need (items v s1) λ xs=>.ok xs s1).wp Q)/\
  (∀ (r:eG) (env:En) (s:S) (Q:List AV × Gd->S->Prop),(uc r env s).wp Q=(r env s).wp λ xs s1=>Q (xs,[]) s1)/\
  (∀ (m:Ev) (env:En) (s:S) (Q:List AV × Gd->S->Prop),(fO m env s).wp Q=(m env s).wp λ v s1=>(zk v s1).wp Q)/\
  (∀ (l:Lc) (src:Src) (eS:Mt) (test:Eb) (elt:Ev) (env:En) (s:S) (Q:List AV->S->Prop),(cg l src eS test elt env s).wp Q=(src env s).wp λ p s1=>p.1.length<=sizeLine/\(bX eS test elt p.2 p.1 (vv l env) s1 []).wp Q)/\
  (∀ (n:String) (op:AV->List AV->S->R AV) (o:Ev) (r:eG) (env:En) (s:S) (Q:AV->S->Prop),(pL n op o r env s).wp Q=(o env s).wp λ v s1=>(iX n v s1).isSome=true/\(r env s1).wp λ vs s2=>(op v vs s2).wp Q)/\
  (∀ {α:Type}(n:String) (op:AV->List AV->S->R α) (o:Ev) (r:eG) (env:En) (s:S) (Q:α->S->Prop),(By n op o r env s).wp Q=(o env s).wp λ v s1=>(iX n v s1).isSome=true/\(r env s1).wp λ vs s2=>(op v vs s2).wp Q)/\
  (∀ (n:String) (op:AV->List AV->S->R AV) (o:Ev) (env:En) (s:S) (Q:AV->S->Prop),(FK n op o env s).wp Q=(o env s).wp λ v s1=>(iX n v s1).isSome=true/\(op v [] s1).wp Q)/\
  (∀ (d y z:Ev) (env:En) (s:S) (Q:AV->S->Prop),(pM d y z env s).wp Q=(d env s).wp λ a s1=>(iX "dict" a s1).isSome=true/\(y env s1).wp λ b s2=>(z env s2).wp λ c s3=>(Ar a b c s3).wp Q)/\
  (∀ (env:En) (s:S) (Q:AV->S->Prop),(vf env s).wp Q=Q (.ref s.length) (s++[.dK []]))/\
  (∀ (m:Ev) (lo hi:Eo) (env:En) (s:S) (Q:AV->S->Prop),(Es m lo hi env s).wp Q=(m env s).wp λ v s1=>(lo env s1).wp λ l s2=>(hi env s2).wp λ h s3=>(yg v l h s3).wp Q)/\
  (∀ (env:En) (s:S) (Q:Option Int->S->Prop),(oN env s).wp Q=Q none s)/\
  (∀ (m:Ev) (env:En) (s:S) (Q:Option Int->S->Prop),(oS m env s).wp Q=(m env s).wp λ v s1=>match v with|.int i=>Q (some i) s1|_=>False)/\
  (∀ (a b:Ev) (env:En) (s:S) (Q:AV->S->Prop),(sI a b env s).wp Q=(a env s).wp λ v s1=>match v with|.bl true=>(b env s1).wp Q|.bl false=>Q (.bl false) s1|_=>False)/\
  (∀ (a b:Ev) (env:En) (s:S) (Q:AV->S->Prop),(Ni a b env s).wp Q=(a env s).wp λ v s1=>match v with|.bl true=>Q (.bl true) s1|.bl false=>(b env s1).wp Q|_=>False)/\
  (∀ (m:Ev) (env:En) (s:S) (Q:AV->S->Prop),(Cq m env s).wp Q=(m env s).wp λ v s1=>(s1.take s.length=s/\v.low s.length=true)/\Q v s)/\
  (∀ (m:Eb) (env:En) (s:S) (Q:Bool->S->Prop),(L4 m env s).wp Q=(m env s).wp λ v s1=>(s1.take s.length=s)/\Q v s)/\
  (∀ (m:Ev) (env:En) (s:S) (Q:AV->S->Prop),(FX m env s).wp Q=(m env s).wp λ v s1=>((s1.take s.length).all (AO.low s.length)=true/\v.low s.length=true)/\Q v (s1.take s.length))/\
  (∀ (m:Ev) (env:En) (s:S) (Q:List AV->S->Prop),(kg m env s).wp Q=(m env s).wp λ v s1=>match v with|.ref k=>(need (ak s1 k) λ xs=>if s.length<=k/\(s1.take s.length).all (AO.low s.length)=true/\aR s.length xs=true then .ok xs (s1.take s.length) else .bad).wp Q|_=>False):=by
 refine⟨?_,?_,?_,?_,?_,?_,?_,?_,?_,?_,?_,?_,?_,?_,?_,?_,?_,?_,?_,?_,?_,?_,?_,?_,?_,?_,?_,?_,?_,?_,?_,?_,?_,?_,?_,?_⟩<;>intros
 ·rfl
 ·unfold ag;rw[wp_bind];congr 1;funext v s1;rw[wp_bind]
 ·unfold cC;rw[wp_bind]
 ·unfold iG;rw[wp_bind];congr 1;funext v s1;exact jB _ _ _
 ·unfold bS;rw[wp_bind];congr 1;funext v s1;exact jB _ _ _
 ·unfold aP;rw[wp_bind];rfl
 ·unfold aE;rw[wp_bind];congr 1;funext v s1;exact jB _ _ _
 ·unfold aa;rw[wp_bind];congr 1;funext v s1;rw[wp_bind];rfl
 ·rfl
 ·unfold cB;rw[wp_bind];congr 1;funext v s1;cases v<;>rfl
 ·unfold cT;rw[wp_bind];congr 1;funext v s1;cases truth v s1<;>rfl
 ·unfold tm;rw[wp_bind];rfl
 ·unfold MY;rw[wp_bind];congr 1;funext v s1;exact oz _ _ _ _
 ·unfold Cv;rw[wp_bind];congr 1;funext v s1;exact oz _ _ _ _
 ·rfl
 ·unfold Jx;rw[wp_bind];congr 1;funext v s1;exact oz _ _ _ _
 ·unfold tN;rw[wp_bind]
 ·unfold Cr;rw[wp_bind]
 ·unfold Ez;rw[wp_bind]
 ·unfold uc;rw[wp_bind];rfl
 ·unfold fO;rw[wp_bind];rfl
 ·unfold cg;rw[wp_bind];congr 1;funext v s1;exact jB _ _ _
 ·unfold pL;rw[wp_bind];congr 1;funext v s1
  cases iX _ v s1 with
  | none=>exact propext ⟨λ k=>k.elim,λ k=>nomatch k.1⟩
  | some u=>rw[l6,wp_bind];exact propext ⟨λ k=>⟨rfl,k⟩,λ k=>k.2⟩
 ·unfold By;rw[wp_bind];congr 1;funext v s1
  cases iX _ v s1 with
  | none=>exact propext ⟨λ k=>k.elim,λ k=>nomatch k.1⟩
  | some u=>rw[l6,wp_bind];exact propext ⟨λ k=>⟨rfl,k⟩,λ k=>k.2⟩
 ·unfold FK;rw[wp_bind];congr 1;funext v s1
  cases iX _ v s1 with
  | none=>exact propext ⟨λ k=>k.elim,λ k=>nomatch k.1⟩
  | some u=>rw[l6];exact propext ⟨λ k=>⟨rfl,k⟩,λ k=>k.2⟩
 ·unfold pM;rw[wp_bind];congr 1;funext v s1
  cases iX _ v s1 with
  | none=>exact propext ⟨λ k=>k.elim,λ k=>nomatch k.1⟩
  | some u=>
   rw[l6,wp_bind]
   simp only[wp_bind]
   exact propext ⟨λ k=>⟨rfl,k⟩,λ k=>k.2⟩
 ·rfl
 ·unfold Es;rw[wp_bind];congr 1;funext v s1;rw[wp_bind];congr 1;funext v s1;rw[wp_bind]
 ·rfl
 ·unfold oS;rw[wp_bind];congr 1;funext v s1;cases v<;>rfl
 ·unfold sI;rw[wp_bind];congr 1;funext v s1
  cases v with
  | bl b=>cases b<;>rfl
  | _=>rfl
 ·unfold Ni;rw[wp_bind];congr 1;funext v s1
  cases v with
  | bl b=>cases b<;>rfl
  | _=>rfl
 ·unfold Cq;rw[wp_bind];congr 1;funext v s1;exact jB _ _ _
 ·unfold L4;rw[wp_bind];congr 1;funext v s1;exact jB _ _ _
 ·unfold FX;rw[wp_bind];congr 1;funext v s1;exact jB _ _ _
 ·unfold kg;rw[wp_bind];congr 1;funext v s1;cases v<;>rfl
theorem pZ {eS:Mt}{b:Ms}{gs:Gd}{N:En->S->Prop}{T:AV->S->Prop}(I:List AV->En->S->Prop)(hg:∀ l env s,I l env s->sR gs s)(h0:∀ env s,I [] env s->N env s)
  (h1:∀ v r env s,I (v :: r) env s->(eS v env s).wp (λ e s1=>(b e s1).wp (I r) T) (λ _ _=>False)):∀ l env s,I l env s->(forL eS b gs l env s).wp N T
 | [],env,s,h=>by unfold forL;rw[if_pos (hg _ _ _ h)];exact h0 env s h
 | v :: r,env,s,h=>by
  unfold forL
  rw[if_pos (hg _ _ _ h)]
  have k:=h1 v r env s h
  revert k
  cases eS v env s with
  | nx e1 s1=>
   intro k
   have k:(b e1 s1).wp (I r) T:=k
   dsimp only
   revert k
   cases b e1 s1 with
   | nx e2 s2=>intro k;exact pZ I hg h0 h1 r e2 s2 k
   | rt e2 s2=>intro k;exact k
   | _=>intro k;exact k.elim
  | _=>intro k;exact k.elim
theorem kR {eS:Mt}{test:Eb}{elt:Ev}{gs:Gd}{Q:List AV->S->Prop}(I:List AV->List AV->En->S->Prop)(hg:∀ l acc env s,I l acc env s->sR gs s)(h0:∀ acc env s,I [] acc env s->Q acc s)
  (h1:∀ v r acc env s,I (v :: r) acc env s->(eS v env s).wp (λ e s1=>(test e s1).wp λ c s2=>if c=true then (elt e s2).wp λ x s3=>I r (acc++[x]) e s3 else I r acc e s2) (λ _ _=>False)):∀ l acc env s,I l acc env s->(bX eS test elt gs l env s acc).wp Q
 | [],acc,env,s,h=>by unfold bX;rw[if_pos (hg _ _ _ _ h)];exact h0 acc env s h
 | v :: r,acc,env,s,h=>by
  unfold bX
  rw[if_pos (hg _ _ _ _ h)]
  have k:=h1 v r acc env s h
  revert k
  cases eS v env s with
  | nx e1 s1=>
   intro k
   dsimp only
   rw[wp_bind,wx]
   refine R.wp.mono k λ c s2 k=>?_
   rw[oz,wp_bind,wx]
   split
   ·rename_i hc;rw[if_pos hc]at k
    exact R.wp.mono k λ x s3 k=>kR I hg h0 h1 r (acc++[x]) e1 s3 k
   ·rename_i hc;rw[if_neg hc]at k
    exact kR I hg h0 h1 r acc e1 s2 k
  | _=>intro k;exact k.elim
end Mm
namespace Mm
open PySem L2
theorem aA {α:Type}{m:R α}{v:α}{s:S}(h:m=.ok v s)(Q:α->S->Prop):m.wp Q=Q v s:=by rw[h];rfl
theorem qg {m:RS}{e:En}{s:S}(h:m=.nx e s)(N:En->S->Prop)(T:AV->S->Prop):m.wp N T=N e s:=by rw[h];rfl
theorem Gm (f:En->S->Nat)(c:Eb)(b:Ms)(env:En)(s:S)(N:En->S->Prop)(T:AV->S->Prop):(C5 f c b env s).wp N T=(Cf c b (f env s) env s).wp N T:=rfl
theorem WV :
  (∀ (v:AV) (l:En) (s:S) (Q:AV->S->Prop),(mv 0 (some v :: l) s).wp Q=Q v s)/\
  (∀ (n:Nat) (x:Option AV) (l:En) (s:S) (Q:AV->S->Prop),(mv (n+1) (x :: l) s).wp Q=(mv n l s).wp Q)/\
  (∀ (i j:Int) (s:S) (Q:AV->S->Prop),(du (.int i) (.int j) s).wp Q=Q (.int (i+j)) s)/\
  (∀ (i j:Int) (s:S) (Q:AV->S->Prop),(KD (.int i) (.int j) s).wp Q=Q (.int (i - j)) s)/\
  (∀ (i j:Int) (s:S) (Q:AV->S->Prop),(jU (.int i) (.int j) s).wp Q=((CA i/\CA j)/\Q (.int (i * j)) s))/\
  (∀ (i j:Int) (s:S) (Q:AV->S->Prop),(mZ (.int i) (.int j) s).wp Q=((j≠0/\Jt j)/\Q (.int (i.fdiv j)) s))/\
  (∀ (i j:Int) (s:S) (Q:AV->S->Prop),(h_ (.int i) (.int j) s).wp Q=(j≠0/\Q (.int (i.fmod j)) s))/\
  (∀ (i:Int) (s:S) (Q:AV->S->Prop),(wO (.int i) s).wp Q=Q (.int (-i)) s)/\
  (∀ (b:Bool) (s:S) (Q:AV->S->Prop),(qQ (.bl b) s).wp Q=Q (.bl (!b)) s)/\
  (∀ (i j:Int) (s:S) (Q:AV->S->Prop),(Aq (.int i) (.int j) s).wp Q=Q (.bl (decide (i < j))) s)/\
  (∀ (i j:Int) (s:S) (Q:AV->S->Prop),(OB (.int i) (.int j) s).wp Q=Q (.bl (decide (i<=j))) s)/\
  (∀ (i j:Int) (s:S) (Q:AV->S->Prop),(vG (.int i) (.int j) s).wp Q=Q (.bl (decide (j < i))) s)/\
  (∀ (i j:Int) (s:S) (Q:AV->S->Prop),(As (.int i) (.int j) s).wp Q=Q (.bl (decide (j<=i))) s)/\
  (∀ (i j:Int) (s:S) (Q:AV->S->Prop),(dQ (.int i) (.int j) s).wp Q=Q (.bl (decide (i=j))) s)/\
  (∀ (i j:Int) (s:S) (Q:AV->S->Prop),(pq (.int i) (.int j) s).wp Q=Q (.bl (!decide (i=j))) s)/\
  (∀ (i j:Str) (s:S) (Q:AV->S->Prop),(dQ (.str i) (.str j) s).wp Q=Q (.bl (decide (i=j))) s)/\
  (∀ (i j:Str) (s:S) (Q:AV->S->Prop),(pq (.str i) (.str j) s).wp Q=Q (.bl (!decide (i=j))) s)/\
  (∀ (v:AV) (s:S) (Q:AV->S->Prop),(jV v .aC s).wp Q=Q (.bl (il v)) s)/\
  (∀ (v:AV) (s:S) (Q:AV->S->Prop),(DL v .aC s).wp Q=Q (.bl (!il v)) s)/\
  (∀ (i:Int) (s:S) (Q:AV->S->Prop),(qS [.int i] s).wp Q=Q (.int (if i < 0 then -i else i)) s)/\
  (∀ (i j:Int) (s:S) (Q:AV->S->Prop),(KG [.int i,.int j] s).wp Q=Q (.int (if j < i then j else i)) s)/\
  (∀ (i:Int) (s:S) (Q:AV->S->Prop),(FH [.int i] s).wp Q=Q (.int i) s)/\
  (∀ (i:Bool) (s:S) (Q:AV->S->Prop),(FH [.bl i] s).wp Q=Q (.int (if i then 1 else 0)) s)/\
  (∀ (xs:List AV) (i:Int) (s:S) (Q:AV->S->Prop),(br (.tup xs) (.int i) s).wp Q=(need (jD xs i) λ v=>.ok v s).wp Q)/\
  (∀ (k:Nat) (i:Int) (s:S) (Q:AV->S->Prop),(br (.ref k) (.int i) s).wp Q=(need (ak s k) λ xs=>need (jD xs i) λ v=>.ok v s).wp Q)/\
  (∀ {α:Type}(a:α) (s:S) (Q:α->S->Prop),(R.ok a s).wp Q=Q a s)/\
  (∀ (e:En) (s:S) (N:En->S->Prop) (T:AV->S->Prop),(RS.nx e s).wp N T=N e s)/\
  (∀ {α γ:Type}(x:γ) (f:γ->R α) (Q:α->S->Prop),(need (some x) f).wp Q=(f x).wp Q)/\
  (∀ (xs:List AV) (s:S) (Q:List AV × Gd->S->Prop),(zk (.tup xs) s).wp Q=Q (xs,[]) s)/\
  (∀ (i j:Int) (s:S) (Q:AV->S->Prop),(wN (.int i) (.int j) s).wp Q=(Fy i j/\Q (.int (i ^ j.toNat)) s))/\
  (∀ (i j:Int) (s:S) (Q:AV->S->Prop),(jW [.int i,.int j] s).wp Q=((0 < j/\Jt j)/\Q (.tup [.int (i / j),.int (i % j)]) s)):=by
 refine⟨?_,?_,?_,?_,?_,?_,?_,?_,?_,?_,?_,?_,?_,?_,?_,?_,?_,?_,?_,?_,?_,?_,?_,?_,?_,?_,?_,?_,?_,?_,?_⟩<;>intros<;>first|rfl|exact jB _ _ _
theorem Lq :
  (∀ (x y:Option AV) (l:En),(x :: l).set 0 y=y :: l)/\
  (∀ (x y:Option AV) (l:En) (n:Nat),(x :: l).set (n+1) y=x :: l.set n y)/\
  (∀ (n:Nat) (x:Option AV),List.replicate (n+1) x=x :: List.replicate n x)/\
  (∀ (x:Option AV),List.replicate 0 x=[])/\
  (∀ (a:AV) (l:List AV),jD (a :: l) 0=some a)/\(∀ (a b:AV) (l:List AV),jD (a :: b :: l) 1=some b)/\(∀ (a b c:AV) (l:List AV),jD (a :: b :: c :: l) 2=some c)/\
  (∀ (l:Lc) (env:En),vv l env=l.map λ p=>p.2.bind λ j=>(env[j]?).join)/\
  (∀ (x:Option AV) (l:En),(x :: l)[0]? = some x)/\
  (∀ (x:Option AV) (l:En) (n:Nat),(x :: l)[n+1]? = l[n]?)/\
  (∀ {α β:Type}(f:α->β),[].map f=[])/\
  (∀ {α β:Type}(f:α->β) (x:α) (l:List α),(x :: l).map f=f x :: l.map f)/\
  (∀ {α β:Type}(f:α->Option β),(none:Option α).bind f=none)/\
  (∀ {α β:Type}(f:α->Option β) (x:α),(some x).bind f=f x)/\
  (∀ {α:Type}(x:Option α),(some x).join=x):=by
 refine⟨?_,?_,?_,?_,?_,?_,?_,?_,?_,?_,?_,?_,?_,?_,?_⟩<;>intros<;>first|rfl|skip
 ·exact jy (j:=0) rfl
 ·exact jy (j:=1) rfl
 ·exact jy (j:=2) rfl
theorem UU:(∀ p:Prop,(True ∧ p)=p) ∧ (∀ p:Prop,(p ∧ True)=p) ∧ (∀ {α:Type}{_:Decidable True}(a b:α),(if True then a else b)=a) ∧ (∀ {α:Type}{_:Decidable False}(a b:α),(if False then a else b)=b) ∧ ((false=true)=False) ∧ (∀ (p:Prop){_:Decidable p},(decide p=true)=p) ∧ (∀ b:Bool,((!b)=true)=(b=false)) ∧ (∀ (p:Prop){_:Decidable p},(decide p=false)=¬p):=by
 refine⟨λ p=>true_and p,λ p=>and_true p,λ a b=>if_true a b,λ a b=>if_false a b,Bool.false_eq_true,λ p _=>decide_eq_true_eq,λ b=>Bool.not_eq_true' b,λ p _=>propext decide_eq_false_iff_not⟩

end Mm
local macro_rules | `(tactic| walk_at "w") => `(tactic| simp only [↓Mm.WS, ↓Mm.WE, ↓Mm.WV, Mm.Lq, Mm.af, Mm.UU, Nat.reduceSub, ↓reduceIte])
namespace Ro
open PySem L2 Mm
structure Df (T:Tx)(mg:Str->Option Value)(x:Str)(st:Stmt):Prop where
 ex:∃ f fd,Cc T.K x x st f fd/\mg x=some (.ref f)
theorem dX {K:PySem.W.Frag}{cl:Nat->Addr}{h:Heap}{mg:Str->Option Value}{x:Str}{st:Stmt}{f:Addr}{oc:Value}{od an:Option Addr}{qp:Array (Option Value)}{kV doc pm dG ct:Value}(X:K.In h)(G:h.Ns mainGlobals mg)(a:PySem.W.nsIn K mainGlobals x=some (some (.ref f)))
  (l:K.lookup f=some ⟨oc,od,.func (PySem.W.fnOf x x (cS st) (bK st) (ax st) .none kV doc pm an dG ct),qp⟩) (c:PySem.W.codeIn K dG x=true) (k:PySem.W.keepIn K (.ref f)=true):Df ⟨K,cl⟩ mg x st:=
 ⟨⟨f,_,sS l c k,PySem.W.mg_of X G a⟩⟩
theorem Iy {K:PySem.W.Frag}{cl:Nat->Addr}{h:Heap}{mg:Str->Option Value}{x:Str}{f:Addr}{od:Option Addr}{it:Array Value}{n:Nat}{sl:Array (Option Value)}{vs:List V}{as:List AV}(X:K.In h)(G:h.Ns mainGlobals mg)(a:PySem.W.nsIn K mainGlobals x=some (some (.ref f))) (l:K.lookup f=some ⟨.type "tuple",od,.seq it n,sl⟩)(v:Vals vs it.toList)(hs:vs.length<=1000)(hv:∀ ρ H,aO ⟨K,cl⟩ ρ H as vs):Cz ⟨K,cl⟩ mg x (.tup as):=
 ⟨.ref f,.ref f,PySem.W.mg_of X G a,rfl,λ ρ H=>jL (hW.const l v hs) (hv ρ H)⟩
theorem EB {K:PySem.W.Frag}{cl:Nat->Addr}{h:Heap}{mg:Str->Option Value}{x:Str}{u:Value}{v:V}{a:AV}(X:K.In h)(G:h.Ns mainGlobals mg)(e:PySem.W.nsIn K mainGlobals x=some (some u)) (r:RelV v u)(hv:∀ ρ H,VR ⟨K,cl⟩ ρ H a v):Cz ⟨K,cl⟩ mg x a:=⟨v,u,PySem.W.mg_of X G e,r,hv⟩
section
variable {P:Program}{w:World}{T:Tx}{mg:Str->Option Value}{base:Heap}
end
end Ro
namespace L2
open PySem PySem.Spec PyProof.Rows
theorem Inv.Av {X:Cx}{pins:List (Addr × Obj)}{σ:St}{H:Hp}{s:Shared}(I:Inv X pins σ H s):s.heap.NoDigits:=I.ok.mod.Av.keeps I.bk
theorem Hi {X:Cx}{e:Expr}{te:TE}{pos:Pos}(hc:X.calm=true)(h:PE X e te):PE X (.FormattedValue e (-1) none pos) (λ σ H Q=>te σ H λ x H1=>(∃ i,x=.int i/\i.natAbs < 10 ^ 4300/\Q (.str (toString i)) H1)∨∃ t,x=.str t/\t.length<=sizeLine/\Q (.str t) H1):=by
 intro pins s σ H Q I hq
 refine wpAny_FormattedValue_plain (bI (h pins s σ H _ I hq) λ u s1 ⟨x,H1,I1,rx,q⟩=>?_)
 rcases q with⟨i,rfl,hz,q⟩|⟨t,rfl,hz,q⟩
 ·obtain⟨t,rfl⟩:=rx
  exact PyProof.Rows.formatField_int (I1.ok.hd hc) I1.Av (λ _=>⟨.str _,H1,I1.tok _,⟨_,rfl⟩,q⟩) λ LI=>absurd hz (Nat.not_lt.mpr LI)
 ·obtain⟨t',rfl⟩:=rx
  exact wpAny_formatField_str ⟨.str _,H1,I1,⟨_,rfl⟩,q⟩ ⟨.str _,H1,I1.tok _,⟨_,rfl⟩,q⟩ hz
abbrev TJ:=St->Hp->Str->(Str->Hp->Prop)->Prop
def PJ (X:Cx)(es:List Expr)(t:TJ):Prop:=∀ (pins:List (Addr × Obj)) (s:Shared) (σ:St) (H:Hp) (acc:Str) (Q:Str->Hp->Prop),Inv X pins σ H s->t σ H acc Q->
 Joins (model X.prog X.w) X.A X.xe (evalEach es X.env) acc (λ out s1=>∃ H1,Inv X pins σ H1 s1/\Q out H1) s
def J6:TJ:=λ σ H acc Q=>Q acc H
def Gx (te:TE)(r:TJ):TJ:=λ σ H acc Q=>te σ H λ x H1=>∃ y,x=.str y/\(acc++y).length<=sizeLine/\r σ H1 (acc++y) Q
theorem G8 {X:Cx}:PJ X [] J6:=λ pins s σ H acc Q I h=>⟨H,I,h⟩
theorem Ds {X:Cx}{e:Expr}{es:List Expr}{te:TE}{r:TJ}(he:PE X e te)(hr:PJ X es r)(hs:evalEach (e :: es) X.env=eval e X.env :: evalEach es X.env:=by rfl):PJ X (e :: es) (Gx te r):=by
 intro pins s σ H acc Q I h
 rw[hs]
 refine bI (he pins s σ H _ I h) λ u s1 ⟨x,H1,I1,rx,y,ex,hl,q⟩=>?_
 subst ex
 obtain⟨t,rfl⟩:=rx
 exact⟨y,t,rfl,hl,hr pins s1 σ H1 _ Q I1 q⟩
theorem rg {M:Model}{A:Around}{E:Value->Shared->Prop}:∀ {ps:List (Sem Value)}{acc:Str}{Q Q':Str->Shared->Prop}{s:Shared},Joins M A E ps acc Q s->(∀ o s,Q o s->Q' o s)->Joins M A E ps acc Q' s
 | [],_,_,_,_,h,k=>k _ _ h
 | _ :: _,_,_,_,_,h,k=>wpAny_mono h (λ _ _ ⟨y,t,e,hl,r⟩=>⟨y,t,e,hl,rg r k⟩) λ _ _ x=>x
theorem DB {X:Cx}{e1 e2:Expr}{es:List Expr}{t:TJ}{pos:Pos}(h:PJ X (e1 :: e2 :: es) t):PE X (.JoinedStr (e1 :: e2 :: es) pos) (λ σ H Q=>t σ H Str.empty λ out H1=>out.length<=sizeLine/\Q (.str out) H1):=by
 intro pins s σ H Q I hq
 exact wpAny_JoinedStr (rg (h pins s σ H Str.empty _ I hq) λ out s1 ⟨H1,I1,hl,q⟩=>⟨hl,.str out,H1,I1.tok _,⟨_,rfl⟩,q⟩)
end L2
namespace Mm
open PySem L2
section
variable {T:Tx}{XE:gJ}{X:Cx}{pos:Pos}
structure Dg (i:Int):Prop where
 f:i.natAbs < 10 ^ 4300
noncomputable instance {i:Int}:Decidable (Dg i):=Classical.propDecidable _
def Oa (i:Int):Str:=Str.ofString (toString i)
noncomputable def pA:AV->S->R AV
 | .int i,s=>if Dg i then .ok (.str (Oa i)) s else .bad
 | .str t,s=>if t.length<=sizeLine then .ok (.str t) s else .bad
 | _,_=>.bad
theorem Ih {e:Expr}{m:Ev}(hc:X.calm=true)(h:PE X e (tE T XE m)):PE X (.FormattedValue e (-1) none pos) (tE T XE (cC pA m)):=
 PE.imp (Hi hc h) λ σ H Q ⟨ρ,env,s,hs,he,ho⟩=>step hs he ho λ v s1 ρ1 H1 x _ u1 aT cz aN az=>by
  have aN:VR T ρ1 H1 v x:=aN
  cases v<;>try exact az.elim
  ·obtain⟨hl,az⟩:=az.a9
   exact .inl ⟨_,aN.int_inv,hl.f,az.aS aT gQ⟩
  ·obtain⟨hl,az⟩:=az.a9
   exact .inr ⟨_,aN.str_inv,hl,az.aS aT gQ⟩
abbrev Ej:=Str->En->S->R Str
def uD:Ej:=λ acc _ s=>.ok acc s
def ij (m:Ev)(r:Ej):Ej:=λ acc env s=>(m env s).bind λ v s1=>match v with
 | .str y=>if (acc++y).length<=sizeLine then r (acc++y) env s1 else .bad
 | _=>.bad
def Oh:Rl Str Str:=⟨λ _ _ _ a b=>a=b,λ _ h=>h⟩
def tJ (T:Tx)(XE:gJ)(m:Ej):TJ:=λ σ H acc Q=>∃ ρ env s,SR T ρ s H/\ER T ρ H env σ/\Out T XE Oh ρ H (m acc env s) Q
theorem PJ.imp {es:List Expr}{t t':TJ}(h:PJ X es t)(k:∀ σ H a Q,t' σ H a Q->t σ H a Q):PJ X es t':=λ pins s σ H a Q I hq=>h pins s σ H a Q I (k σ H a Q hq)
theorem HN:PJ X [] (tJ T XE uD):=PJ.imp G8 λ σ H a Q ⟨ρ,env,s,hs,he,ho⟩=>ho ρ H a .refl hs rfl
theorem D9 {e:Expr}{es:List Expr}{m:Ev}{r:Ej}(he:PE X e (tE T XE m)) (hr:PJ X es (tJ T XE r)) (hs:evalEach (e :: es) X.env=eval e X.env :: evalEach es X.env:=by rfl):PJ X (e :: es) (tJ T XE (ij m r)):=
 PJ.imp (Ds he hr hs) λ σ H a Q ⟨ρ,env,s,hs,he,ho⟩=>step hs he ho λ v s1 ρ1 H1 x _ u1 aT cz aN az=>by
  have aN:VR T ρ1 H1 v x:=aN
  cases v<;>try exact az.elim
  obtain⟨hl,az⟩:=az.a9
  exact⟨_,aN.str_inv,hl,ρ1,env,s1,aT,cz,az⟩
def nM (r:Ej):Ev:=λ env s=>(r Str.empty env s).bind λ t s1=>if t.length<=sizeLine then .ok (.str t) s1 else .bad
theorem Eg {e1 e2:Expr}{es:List Expr}{r:Ej}(h:PJ X (e1 :: e2 :: es) (tJ T XE r)):PE X (.JoinedStr (e1 :: e2 :: es) pos) (tE T XE (nM r)):=
 PE.imp (DB h) λ σ H Q ⟨ρ,env,s,hs,he,ho⟩=>by
  refine⟨ρ,env,s,hs,he,?_⟩
  unfold nM at ho
  cases e:r Str.empty env s with
  | bad=>rw[e]at ho;exact ho
  | ex c s1=>rw[e]at ho;exact ho
  | ok t s1=>
   rw[e]at ho
   obtain⟨hl,ho⟩:=ho.a9
   intro ρ1 H1 x u sr ex
   cases (show t=x from ex)
   exact⟨hl,(Out.up u ho).aS sr gQ⟩
end
end Mm
namespace L2
open PySem PySem.Spec PySem.W PyProof.Rows
def XT (h:Heap)(e:Addr)(vs:Array Value):Prop:=vs[1]? = some .none∨∃ T oT ts,vs[1]? = some (.ref T)/\T≠e/\h.get? T=some oT/\oT.data=.fields ts/\ts[3]? = some .none
structure Way (fs:List Addr)(e:Addr)(oe:Obj)(h h':Heap):Prop where
 keep:∀ b o,h.get? b=some o->b∉fs->b≠e->h'.get? b=some o
 slot:∀ b o,h.get? b=some o->b∈fs->∃ sl,h'.get? b=some { o with slots:=sl }
 exc:∃ vs,h'.get? e=some { oe with data:=.fields vs }/\1 < vs.size/\XT h' e vs
theorem mB {o:Obj}{ts:Array Value}(hd:o.data=.fields ts)(h3:ts[3]? = some .none):Obj.mapFields (·.setIfInBounds 3 .none) o=o:=by
 obtain⟨c,d,dat,sl⟩:=o
 have hd:dat=.fields ts:=hd
 subst hd
 show Obj.mk c d (.fields (ts.setIfInBounds 3 .none)) sl=_
 congr 2
 apply Array.ext_getElem?
 intro i
 rw[Array.getElem?_setIfInBounds]
 split
 ·rename_i hi
  subst hi
  split
  ·exact h3.symm
  ·rename_i hz
   rw[Array.getElem?_eq_none (by omega)]at h3
   cases h3
 ·rfl
theorem vM {o:Obj}{ts:Array Value}(hd:o.data=.fields ts)(f:Array Value->Array Value):Obj.mapFields f o={ o with data:=.fields (f ts) }:=by
 obtain⟨c,d,dat,sl⟩:=o
 have hd:dat=.fields ts:=hd
 subst hd
 rfl
section
variable {M:Model}{A:Around}{E:Value->Shared->Prop}{s:Shared}
theorem uQ {base:Heap}{env:Env}{outer:List Env}{L e:Addr}{oe:Obj}{vs:Array Value}{head:Value}{hn:Bool}{Q:Unit->Shared->Prop}
  (FT:A.frames=some (env :: outer)) (hl:s.heap.FunFrames base (env :: outer)) (hf:env.frame=some L) (he:s.heap.get? e=some oe) (hd:oe.data=.fields vs) (hz:1 < vs.size)
  (hq:∀ h',Way (tR (env :: outer)) e oe s.heap h'->Q () { s with heap:=h' }) :
  wpAny M A (do let a <-frameOf env;let pl <-entryPlaceOf L hn;let b <-EntryCells.newEntry head a .none (rawInt L) .none pl;setField (.ref e) 1 b) (λ _ s'=>wpAny M A (setFlight (.ref e) none) Q E s') E s:=by
 have ne:e∉tR (env :: outer):=λ z=>by
  obtain⟨_,o,ho,Sq⟩:=hl.mem z
  rw[he]at ho
  cases ho
  exact Sq vs hd
 refine wpAny_bind (wpAny_frameOf_fun FT hl hf λ g so=>?_)
 refine wpAny_bind (wpAny_entryPlaceOf λ pl fj=>?_)
 refine wpAny_bind ?_
 simp only[EntryCells.newEntry,newFields]
 refine wpAny_newObj_type ?_ (fj.sizeOk5 _ _ _ _ _)
 generalize ht:([head,Value.ref L,Value.none,rawInt L,Value.none]++(if pl.isEmpty then List.replicate 6 Value.none else pl)).toArray=tv
 have TM:5<=tv.size:=by rw[<-ht];simp
 have ge:g.get? e=some oe:=(so.2.1 e ne).trans he
 have LV:g.objs.size≠e:=Nat.ne_of_gt (Heap.lt_size ge)
 have ge1:(g.push { cls:=.type "traceback",data:=.fields tv }).get? e=some oe:=Heap.get?_push_of_some _ ge
 refine wpAny_setField ge1 hd hz ?_
 have ed:(Obj.mapFields (·.setIfInBounds 1 (Value.ref g.objs.size)) oe)={ oe with data:=.fields (vs.setIfInBounds 1 (.ref g.objs.size)) }:=vM hd _
 have hd2:(Obj.mapFields (·.setIfInBounds 1 (Value.ref g.objs.size)) oe).data=.fields (vs.setIfInBounds 1 (.ref g.objs.size)):=by rw[ed]
 have Q5:=Heap.get?_update_self (Obj.mapFields (·.setIfInBounds 1 (Value.ref g.objs.size))) ge1 (Obj.isFreed_of_fields hd2)
 have gT:=(Heap.get?_update_other (g.push { cls:=.type "traceback",data:=.fields tv }) (Obj.mapFields (·.setIfInBounds 1 (Value.ref g.objs.size))) (Ne.symm LV)).trans (Heap.get?_push_size g rfl)
 unfold setFlight
 refine wpAny_bind (wpAny_field Q5 hd2 (x:=.ref g.objs.size) (by rw[Array.getElem?_setIfInBounds_self_of_lt hz]) ?_)
 rw[if_pos (by simp)]
 refine wpAny_setField gT rfl (by omega) (hq _ ?_)
 have Qx:∀ b o,g.get? b=some o->b≠e->(((g.push { cls:=.type "traceback",data:=.fields tv }).update e (Obj.mapFields (·.setIfInBounds 1 (Value.ref g.objs.size)))).update g.objs.size (Obj.mapFields (·.setIfInBounds 3 ((none:Option Addr).elim Value.none λ f=>rawInt f)))).get? b=some o:=λ b o hb ET=>by
  rw[Heap.get?_update_other _ _ (Nat.ne_of_gt (Heap.lt_size hb)),Heap.get?_update_other _ _ (Ne.symm ET)]
  exact Heap.get?_push_of_some _ hb
 refine⟨λ b o hb h1 h2=>Qx b o ((so.2.1 b h1).trans hb) h2,λ b o hb h1=>?_,?_⟩
 ·obtain⟨sl,hs⟩:=so.2.2 b o hb
  exact⟨sl,Qx b _ hs λ z=>ne (z ▸ h1)⟩
 ·refine⟨vs.setIfInBounds 1 (.ref g.objs.size),?_,by simpa using hz,.inr ⟨g.objs.size,_,_,by rw[Array.getElem?_setIfInBounds_self_of_lt hz],LV,Heap.get?_update_self _ gT (Obj.isFreed_of_fields (by rw[vM (o:={ cls:=.type "traceback",data:=.fields tv }) (ts:=tv) rfl])),by rw[vM (o:={ cls:=.type "traceback",data:=.fields tv }) (ts:=tv) rfl],?_⟩⟩
  ·rw[Heap.get?_update_other _ _ LV,Q5,ed]
  ·rw[Array.getElem?_setIfInBounds_self_of_lt (by omega)];rfl
theorem wX {base:Heap}{env:Env}{outer:List Env}{L e:Addr}{oe:Obj}{vs:Array Value}{Q:Unit->Shared->Prop}
  (FT:A.frames=some (env :: outer)) (hl:s.heap.FunFrames base (env :: outer)) (hf:env.frame=some L) (he:s.heap.get? e=some oe) (hd:oe.data=.fields vs) (hx:XT s.heap e vs)
  (hq:∀ h',Way (tR (env :: outer)) e oe s.heap h'->Q () { s with heap:=h' }):wpAny M A (noteFrame (.ref e) env) (λ _ s'=>wpAny M A (setFlight (.ref e) none) Q E s') E s:=by
 unfold noteFrame
 simp only[hf]
 rcases hx with h1|⟨T,oT,ts,h1,LV,hT,hdT,h3⟩
 ·refine wpAny_bind (wpAny_field he hd h1 ?_)
  rw[if_neg (by decide)]
  exact uQ FT hl hf he hd (Array.getElem?_eq_some_iff.mp h1).1 hq
 ·refine wpAny_bind (wpAny_field he hd h1 ?_)
  rw[if_pos (show(Value.ref T != Value.none)=true from by simp)]
  refine wpAny_bind (wpAny_field hT hdT h3 ?_)
  rw[if_neg (show ¬ ((Value.none == rawInt L)=true) from by simp[rawInt])]
  refine wpAny_bind (wpAny_setField hT hdT (Array.getElem?_eq_some_iff.mp h3).1 ?_)
  have same:∀ b o,s.heap.get? b=some o->(s.heap.update T (Obj.mapFields (·.setIfInBounds 3 Value.none))).get? b=some o:=λ b o hb=>by
   by_cases hbT:b=T
   ·subst hbT
    rw[hT]at hb
    cases hb
    have q:=Heap.get?_update_self (Obj.mapFields (·.setIfInBounds 3 Value.none)) hT (by rw[mB hdT h3];exact Obj.isFreed_of_fields hdT)
    rw[q,mB hdT h3]
   ·rw[Heap.get?_update_other _ _ (Ne.symm hbT)];exact hb
  refine uQ (s:={ s with heap:=s.heap.update T (Obj.mapFields (·.setIfInBounds 3 Value.none)) }) FT (hl.of_keeps λ b o hb _=>⟨o,same b o hb,rfl⟩) hf (same e oe he) hd (Array.getElem?_eq_some_iff.mp h1).1 λ h' W=>hq h' ?_
  exact⟨λ b o hb=>W.keep b o (same b o hb),λ b o hb=>W.slot b o (same b o hb),W.exc⟩
theorem Be {base:Heap}{env:Env}{outer:List Env}{L e:Addr}{oe:Obj}{vs:Array Value}{Q:Unit->Shared->Prop}
  (FT:A.frames=some (env :: outer)) (hl:s.heap.FunFrames base (env :: outer)) (hf:env.frame=some L) (he:s.heap.get? e=some oe) (hd:oe.data=.fields vs) (hx:XT s.heap e vs)
  (hq:∀ h',Way (tR (env :: outer)) e oe s.heap h'->Q () { s with heap:=h' }):wpAny M A (leaving env (.ref e)) Q E s:=by
 unfold leaving
 exact wpAny_bind (wX FT hl hf he hd hx hq)
theorem yB {e:Addr}{oe:Obj}{vs:Array Value}{Q:Unit->Shared->Prop}(he:s.heap.get? e=some oe)(hd:oe.data=.fields vs)(hx:XT s.heap e vs)
  (hq:∀ h',(∀ b o,s.heap.get? b=some o->h'.get? b=some o)->Q () { s with heap:=h' }):wpAny M A (setFlight (.ref e) none) Q E s:=by
 unfold setFlight
 rcases hx with h1|⟨T,oT,ts,h1,LV,hT,hdT,h3⟩
 ·refine wpAny_bind (wpAny_field he hd h1 ?_)
  rw[if_neg (by decide)]
  exact wpAny_pure (hq s.heap λ _ _ z=>z)
 ·refine wpAny_bind (wpAny_field he hd h1 ?_)
  rw[if_pos (show(Value.ref T != Value.none)=true from by simp)]
  refine wpAny_setField hT hdT (Array.getElem?_eq_some_iff.mp h3).1 (hq _ λ b o hb=>?_)
  by_cases hbT:b=T
  ·subst hbT
   rw[hT]at hb
   cases hb
   have q:=Heap.get?_update_self (Obj.mapFields (·.setIfInBounds 3 Value.none)) hT (by rw[mB hdT h3];exact Obj.isFreed_of_fields hdT)
   exact q.trans (by rw[mB hdT h3])
  ·exact(Heap.get?_update_other _ _ (Ne.symm hbT)).trans hb
end
def CF (C e:Addr)(d:Option Addr):HO:=.ext λ h=>∃ (ox:Obj) (vs:Array Value),h.get? e=some ox/\ox.cls=.ref C/\ox.dict=d/\ox.data=.fields vs
theorem Way.aX {P:Program}{w:World}{H:Hp}{fs:List Addr}{C e:Addr}{d:Option Addr}{oe:Obj}{h h':Heap}(W:Way fs e oe h h')(hf:∀ b∈fs,H b=none)(he:H e=some (CF C e d)) (ho:h.get? e=some oe)(hc:oe.cls=.ref C)(hn:oe.dict=d)(x:jI P w H h):jI P w H h':=λ b u q=>by
 obtain⟨vs,e1,e2,e3⟩:=W.exc
 by_cases hb:b=e
 ·subst hb
  rw[he]at q
  cases q
  exact⟨⟨_,vs,e1,hc,hn,rfl⟩,⟨_,e1⟩,λ h1 h2 ⟨ox,vs,z,r⟩ k=>⟨ox,vs,k ox z,r⟩⟩
 ·refine(x b u q).ly (λ c v hc z=>W.keep c v z (λ m=>?_) ?_) (λ c z=>z) λ c xs z=>z
  ·rcases hc with rfl|hc
   ·rw[hf c m]at q;cases q
   ·rw[hf c m]at hc;cases hc
  ·rintro rfl
   rcases hc with rfl|hc
   ·exact hb rfl
   ·rw[he]at hc;cases hc
theorem Way.un {H:Hp}{fs L8:List Addr}{C e:Addr}{d:Option Addr}{oe:Obj}{h h':Heap}(W:Way fs e oe h h')(he:H e=some (CF C e d)) (hs:∀ b∈fs,b∈L8):Un L8 [] H H h h':=by
 have ne:∀ b,H b=none->b≠e:=λ b n z=>by subst z;rw[he]at n;cases n
 have any:∀ b o,h.get? b=some o->b≠e->∃ sl,h'.get? b=some { o with slots:=sl }:=λ b o q z=>by
  by_cases m:b∈fs
  ·exact W.slot b o q m
  ·exact⟨o.slots,W.keep b o q m z⟩
 refine⟨λ b o q n hb _=>W.keep b o q (λ z=>hb (hs b z)) (ne b n),λ b o q n _ _=>any b o q (ne b n),λ _ _ _ n _=>n,λ b o q _=>?_,λ _ _ q=>q,λ _ _ _ q=>q,λ _ ps q=>⟨#[],by rw[q];simp⟩⟩
 by_cases z:b=e
 ·subst z
  obtain⟨vs,e1,_⟩:=W.exc
  exact⟨_,e1⟩
 ·obtain⟨sl,e1⟩:=any b o q z
  exact⟨_,e1⟩
structure Lies (C e:Addr)(d:Option Addr)(H:Hp)(h:Heap):Prop where
 Cg:H e=some (CF C e d)
 ex:∃ (ox:Obj) (vs:Array Value),h.get? e=some ox/\ox.cls=.ref C/\ox.dict=d/\ox.data=.fields vs/\XT h e vs
def nF (P:Program)(w:World):yR:=λ outer H s E ev s'=>∃ e C d H',ev=.ref e/\s'.os=s.os/\AllBare s'.gens/\Un (tR outer) [] H H' s.heap s'.heap/\jI P w H' s'.heap/\Lies C e d H' s'.heap/\E ev (some C) H'
theorem Un.way {H0 H:Hp}{fs:List Addr}{C e L:Addr}{d:Option Addr}{oe:Obj}{h0 h h':Heap}(u:Un fs [] H0 H h0 h)(W:Way (L :: fs) e oe h h') (he:H e=some (CF C e d)) (hL:h0.objs.size<=L):Un fs [] H0 H h0 h':=by
 have ne:∀ b,H b=none->b≠e:=λ b n z=>by subst z;rw[he]at n;cases n
 have nL:∀ b o,h0.get? b=some o->b≠L:=λ b o q z=>by subst z;exact absurd (Heap.lt_size q) (Nat.not_lt.mpr hL)
 refine⟨λ b o q n hb hx=>W.keep b o (u.keep b o q n hb hx) (λ z=>?_) (ne b (u.free b o q n hx)),λ b o q n hb hx=>?_,u.free,λ b o q hx=>?_,u.jE,u.iJ,u.o7⟩
 ·rcases List.mem_cons.mp z with z|z
  ·exact nL b o q z
  ·exact hb z
 ·obtain⟨sl,e1⟩:=u.slot b o q n hb hx
  obtain⟨Nd,e2⟩:=W.slot b _ e1 (List.mem_cons_of_mem _ hb)
  exact⟨Nd,e2⟩
 ·obtain⟨o',e1⟩:=u.there b o q hx
  by_cases z:b=e
  ·subst z
   obtain⟨vs,e2,_⟩:=W.exc
   exact⟨_,e2⟩
  ·by_cases m:b∈L :: fs
   ·obtain⟨sl,e2⟩:=W.slot b _ e1 m
    exact⟨_,e2⟩
   ·exact⟨_,W.keep b _ e1 m z⟩
def Lets (X:Cx)(E:XK):Prop:=∀ pins σ H s e C d,Inv X pins σ H s->Lies C e d H s.heap->E (.ref e) (some C) H->X.xe (.ref e) s
theorem Lets.passes {X:Cx}{E:XK}(l:Lets X E):Passes (nF X.prog X.w) X E:=by
 rintro pins σ H s ev s' I ⟨e,C,d,H',rfl,os,bare,un,aX,x,q⟩
 obtain⟨v,H1,J,r,rfl⟩:=I.after (Q:=λ v H1=>H1=H') (u:=.none) ⟨.aC,H',os,bare,un,aX,rfl,rfl⟩
 exact l pins σ _ s' e C d J x q
theorem Ex {P:Program}{w:World}{K:PySem.W.Frag}{mg:Str->Option Value}{base:Heap}{N:List Str}{qual:Str}{scope:Scope}{f:Addr}{cd:Value}{A:Around}{outer:List Env}{s:Shared}{H:Hp}{E:XK}:Lets (jG (nF P w) P w K mg base N qual scope f cd A outer s H E) E:=by
 intro pins σ H' s' e C d I x q
 obtain⟨ox,vs,e1,e2,e3,e4,e5⟩:=x.ex
 refine Be (base:=base) (outer:=outer) I.ok.frames I.stack rfl e1 e4 e5 λ h' W=>?_
 refine⟨e,C,d,H',rfl,I.os,I.bare,I.base.way W x.Cg (Nat.le_refl _),W.aX I.oB x.Cg e1 e2 e3 I.aX,⟨x.Cg,?_⟩,q⟩
 obtain⟨Qi,z1,z2,z3⟩:=W.exc
 exact⟨_,Qi,z1,e2,e3,rfl,z3⟩
def GL (C:Addr)(E:XK)(t:TA):TS:=λ _ σ H=>t σ H λ vs H1=>vs.length<=sizeLine/\∀ e,H1 e=none->E (.ref e) (some C) (upd H1 e (CF C e none))
theorem zS {X:Cx}{E:XK}{C:Addr}{nm:Str}{bm:List Value}{xn:Str}{np bE pos:Pos}{a:Expr}{as:List Expr}{t:TA}(x:hV X.K C nm bm none)(hk:PySem.W.keepIn X.K (.ref C)=true) (hg:Gl X xn)(hm:X.mg xn=some (.ref C)) (hc:X.calm=true)(l:Lets X E)(ha:PA X (a :: as) t)
  (jn:(xn == ("__debug__":Str))=false:=by decide) (he:starEach (a :: as) X.env=(false,eval a X.env) :: starEach as X.env:=by rfl) (fj:(backTo bE (starEach as X.env)).any (·.1)=false:=by rfl) :
  PS X (.Raise (some (.Call (.Name xn np) (a :: as) [] bE)) none pos) (GL C E t):=by
 intro pins s σ H D I h
 obtain⟨q,N,bs,sn,sub,ab,col,dd,k0,k1,k2,k3,k5,m,lC,n,i⟩:=x.ex
 have hb:bm.contains (.type "BaseException")=true:=(x.tail.Hn I.jl).hasType (X:="BaseException") (b:=true) (by decide +kernel)
 rw[arm_exec_Raise]
 refine wpAny_bind (wpAny_standAt (wpAny_raiseStmt_made_sub (C:=C) (nm:=nm) (q:=q) (N:=N) (bs:=bs) (bm:=bm) (hdct:=true) (sn:=sn) (sub:=sub) (ab:=ab) (col:=col) (dd:=dd) (k0:=k0) (k1:=k1) (k2:=k2) (k3:=k3) (k5:=k5) (newId:="ValueError.__new__") hb (I.ok.hd hc) (wpAny_bind (wpAny_mono (wpAny_Call_Name_kw (kL I hg hm ?_ jn)) (λ v s₃ h₃=>wpAny_bind (wpAny_standAt (wpAny_pure h₃))) λ _ _ x=>x))))
 refine PySem.W.callWith_K (h₀:=X.base) I.ok.mod.Lo hk (bI (ha bE pins s σ H _ I h) λ us s1 ⟨vs,H1,I1,r,hl,q1⟩=>⟨I1.jl,?_⟩) he fj
 obtain⟨hp,g,d,tk,os⟩:=s1
 refine wpAny_call_exc_subU (hrest:=by rw[List.nil_append,<-r.length];exact hl) PySem.F.excBase_ValueError (by decide +kernel) PySem.F.excBase_ValueError (x.tail.Hn I1.jl) (I1.jl _ _ lC) (n.ns I1.jl) i λ h' e hm=>?_
 obtain⟨t,ht,_,_⟩:=hm.there
 have yv:hp.get? e=none:=hm.new
 refine⟨e,t,rfl,hm.keeps _ _ (I1.jl _ _ lC),ht,?_⟩
 refine l pins σ _ _ e C none (I1.Lj (a:=e) (o:=CF C e none) (t':=tk) hm.keeps yv ?_) ⟨aw ..,_,_,ht,rfl,rfl,rfl,.inl rfl⟩ (q1 e (I1.gone yv))
 exact⟨⟨_,_,ht,rfl,rfl,rfl⟩,⟨_,ht⟩,λ h1 h2 ⟨ox,vs,e1,r⟩ k=>⟨ox,vs,k ox e1,r⟩⟩
end L2
namespace L2
open PySem PySem.Spec PySem.W PyProof.Rows
section
variable {M:Model}{A:Around}{E:Value->Shared->Prop}{K:PySem.W.Frag}{C D:Addr}{nm RP:Str}{bm Rb:List Value}{lX O2:Option Value}
theorem A7 {s:Shared}{e:Addr}{oe:Obj}{Q:Bool->Shared->Prop}(X:K.In s.heap)(x:hV K C nm bm lX)(y:hV K D RP Rb O2)(he:s.heap.get? e=some oe)(hc:oe.cls=.ref C)(hq:Q ((Value.ref C :: bm).contains (.ref D)) s):wpAny M A (excMatches (.ref e) (.ref D)) Q E s:=by
 obtain⟨q1,N1,Qa,Tq,Ry,T_,Tb,T4,a0,a1,a2,a3,a5,m1,lC,n1,i1⟩:=x.ex
 obtain⟨q2,N2,P',Tp,Rx,T9,Ta,Mf,b0,b1,b2,b3,b5,m2,lD,n2,i2⟩:=y.ex
 have hC:=X _ _ lC
 have hD:=X _ _ lD
 have hb:(Value.ref D :: Rb).contains (.type "BaseException")=true:=by rw[List.contains_cons,(y.tail.Hn X).hasType (X:="BaseException") (b:=true) (by decide +kernel),Bool.or_true]
 obtain⟨hp,g,d,t,os⟩:=s
 have f:=PySem.tc_notTuple
 unfold excMatches
 repeat (first|(with_reducible refine wpAny_loadPart_at he ?_;rw[hc])|with_reducible refine wpAny_loadPart_at hD ?_|(with_reducible refine wpAny_isSubtype_exc hD ?_;rw[hb])|with_reducible refine wpAny_isSubtype_exc hC ?_|wp_step)
 cases hz:(Value.ref C :: bm).contains (.ref D)<;>(rw[hz]at hq;wp_walk;exact hq)
end
section
variable {X:Cx}{pins:List (Addr × Obj)}{σ:St}{H:Hp}{s:Shared}
theorem EV {M:Model}{A:Around}{E:Value->Shared->Prop}{i:Nat}{n:Str}{pos:Pos}{Q:Unit->Shared->Prop}(I:Inv X pins σ H s)(hN:X.N.Nodup)(hi:X.N[i]? = some n)(hk:X.env.scope.names.lookup n=some .local)
  (h:∀ s',Inv X pins (σ.set i none) H s'->Q () s'):wpAny M A (do bindName X.env n .none;unbindBehindTheSuite X.env n pos) Q E s:=by
 obtain⟨m,hn,hl⟩:=id I.loc
 have IW:(X.env.scope.kind == .class || (X.env.scope.kind == .module && X.env.locals != X.env.globals))=false:=by rw[I.ok.kind];rfl
 have hiσ:i < σ.length:=by rw[I.len];exact(List.getElem?_eq_some_iff.mp hi).1
 have B0:=I.B0
 obtain⟨oL,_,_,hoL,_⟩:=id hn
 refine wpAny_nameGoes_keeps hk hn IW λ h' v Ph hs=>?_
 have tracked:jI X.prog X.w H h':=λ b ob e=>by
  refine(I.aX b ob e).ly (λ c w' hc q=>(hs.2 c ?_).trans q) (λ _ q=>q) λ _ _ q=>q
  rintro rfl
  rcases hc with rfl|hc
  ·rw[I.free]at e;cases e
  ·rw[I.free]at hc;cases hc
 refine h _ ⟨I.ok,I.os,I.bare,⟨λ b o e n hb hx=>?_,λ b o e n hb hx=>?_,I.base.free,λ b o e hx=>?_,I.base.jE,I.base.iJ,I.base.o7⟩,⟨_,Ph,λ j y v' e1 e2 e3=>?_⟩,λ y c e=>?_,I.free,I.iq,λ p hp=>?_,tracked,by simpa using I.len⟩
 ·exact(hs.2 b (Nat.ne_of_lt (Nat.lt_of_lt_of_le (Heap.lt_size e) I.ok.above))).trans (I.base.keep b o e n hb hx)
 ·obtain⟨sl,e1⟩:=I.base.slot b o e n hb hx
  exact⟨sl,(hs.2 b (Nat.ne_of_lt (Nat.lt_of_lt_of_le (Heap.lt_size e) I.ok.above))).trans e1⟩
 ·obtain⟨o',e1⟩:=I.base.there b o e hx
  exact⟨o',(hs.2 b (Nat.ne_of_lt (Nat.lt_of_lt_of_le (Heap.lt_size e) I.ok.above))).trans e1⟩
 ·by_cases hj:j=i
  ·subst hj
   rw[List.getElem?_set_self hiσ]at e2
   cases e2
  ·rw[List.getElem?_set_ne (Ne.symm hj)]at e2
   obtain⟨u',r',q⟩:=hl j y v' e1 e2 e3
   refine⟨u',r',?_⟩
   rcases q with⟨k,e⟩|⟨k,c,e,z⟩
   ·refine .inl ⟨k,?_⟩
    have:y≠n:=λ e=>hj (pG hN e1 (e ▸ hi))
    simp[this,e]
   ·exact .inr ⟨k,c,e,z.sameBut hs (B0 y c e)⟩
 ·obtain⟨w',z⟩:=I.cell y c e
  exact⟨w',z.sameBut hs (B0 y c e)⟩
 ·obtain⟨e,n,ne,nf,d⟩:=I.pin p hp
  exact⟨(hs.2 p.1 ne).trans e,n,ne,nf,d⟩
abbrev Cx.lg (X:Cx)(xe:Value->Shared->Prop)(pn:List (Addr × Obj)):Cx:={ X with xe:=xe,pn:=pn }
abbrev Cx.lh (X:Cx)(e:Addr):Cx:={ X with A:=X.A.mark (some (.ref e)),calm:=false,xe:=λ _ _=>False }
theorem Inv.lg {xe:Value->Shared->Prop}(I:Inv X pins σ H s):Inv (X.lg xe (X.pn++pins)) [] σ H s:=
 ⟨⟨I.ok.mod,I.ok.kind,I.ok.glob,I.ok.blt,I.ok.above,I.ok.inj,I.ok.has,I.ok.Ga,I.ok.hd,I.ok.frames,I.ok.GC,I.ok.Mb,I.ok.bs,I.ok.xF,I.ok.ur,I.ok.uL,I.ok.lR,I.ok.Cs⟩,I.os,I.bare,I.base,I.loc,I.cell,I.free,I.iq,λ p hp=>I.pin p (by simpa using hp),I.aX,I.len⟩
theorem Inv.uo {xe:Value->Shared->Prop}{uh:List (Addr × Obj)}(I:Inv (X.lg xe (X.pn++pins)) uh σ H s):Inv X pins σ H s:=
 ⟨⟨I.ok.mod,I.ok.kind,I.ok.glob,I.ok.blt,I.ok.above,I.ok.inj,I.ok.has,I.ok.Ga,I.ok.hd,I.ok.frames,I.ok.GC,I.ok.Mb,I.ok.bs,I.ok.xF,I.ok.ur,I.ok.uL,I.ok.lR,I.ok.Cs⟩,I.os,I.bare,I.base,I.loc,I.cell,I.free,I.iq,λ p hp=>I.pin p (List.mem_append_left _ hp),I.aX,I.len⟩
theorem Inv.lh {e:Addr}(I:Inv X pins σ H s):Inv (X.lh e) pins σ H s:=
 ⟨⟨I.ok.mod,I.ok.kind,I.ok.glob,I.ok.blt,I.ok.above,I.ok.inj,I.ok.has,I.ok.Ga,(λ z=>nomatch z),I.ok.frames,I.ok.GC,I.ok.Mb,I.ok.bs,I.ok.xF,I.ok.ur,I.ok.uL,I.ok.lR,I.ok.Cs⟩,I.os,I.bare,I.base,I.loc,I.cell,I.free,I.iq,I.pin,I.aX,I.len⟩
theorem Inv.KJ {e:Addr}(hh:X.calm=true->X.A.handled=none)(I:Inv (X.lh e) pins σ H s):Inv X pins σ H s:=
 ⟨⟨I.ok.mod,I.ok.kind,I.ok.glob,I.ok.blt,I.ok.above,I.ok.inj,I.ok.has,I.ok.Ga,hh,I.ok.frames,I.ok.GC,I.ok.Mb,I.ok.bs,I.ok.xF,I.ok.ur,I.ok.uL,I.ok.lR,I.ok.Cs⟩,I.os,I.bare,I.base,I.loc,I.cell,I.free,I.iq,I.pin,I.aX,I.len⟩
end
def JQ (C e:Addr):Option Addr->HO
 | none=>M9 C e
 | some dx=>Qh C e dx
theorem Inv.Jl {X:Cx}{pins:List (Addr × Obj)}{σ:St}{H:Hp}{s:Shared}{C e:Addr}{d:Option Addr}(I:Inv X pins σ H s)(he:H e=some (CF C e d)):Inv X pins σ (upd H e (JQ C e d)) s:=by
 obtain⟨⟨ox,vs,e1,e2,e3,e4⟩,_⟩:=I.aX _ _ he
 have mu:JJ (H e):=by rw[he];trivial
 have hn:notCls ox=true:=by unfold notCls;rw[e4]
 refine I.un (h':=s.heap) (t':=s.toks) (Un.write mu (.inl rfl) (λ _ _ _ z=>z) ⟨_,e1⟩) (I.aX.write mu (.inl rfl) (λ _ _ _ z=>z) ⟨_,e1⟩ ?_)
 cases d with
 | none=>exact⟨⟨ox,e1,e2,hn,e3⟩,⟨_,e1⟩,λ h1 h2 ⟨ox,z,r⟩ k=>⟨ox,k ox z,r⟩⟩
 | some dx=>exact⟨⟨ox,e1,e2,hn,e3⟩,⟨_,e1⟩,λ h1 h2 ⟨ox,z,r⟩ k=>⟨ox,k ox z,r⟩⟩
def FW (i:Nat)(D:Ends):Ends where
 nx:=λ σ H=>D.nx (σ.set i none) H
 rt:=D.rt
 bk:=λ σ H=>D.bk (σ.set i none) H
 ct:=λ σ H=>D.ct (σ.set i none) H
def BM (K:PySem.W.Frag)(N i:Nat)(CC:Addr)(ts:TS)(D:Ends):XK:=λ ev oc H'=>∃ e C d,ev=.ref e/\oc=some C/\H' e=some (CF C e d)/\(∃ nm bm lX,hV K C nm bm lX/\(Value.ref C :: bm).contains (.ref CC)=true)/\
 ∀ σ':St,σ'.length=N->ts (FW i D) (σ'.set i (some (.ref e))) (upd H' e (JQ C e d))
def GK (K:PySem.W.Frag)(N i:Nat)(CC:Addr)(tb:XK->TS)(ts:TS):TS:=λ D σ H=>tb (BM K N i CC ts D) D σ H
theorem zR {X:Cx}{body nG:List Stmt}{b₀:Stmt}{xn n:Str}{np yu pos:Pos}{i:Nat}{CC:Addr}{nm:Str}{bm:List Value}{lX:Option Value}{tb:XK->TS}{ts:TS}
  (hN:X.N.Nodup) (xc:hV X.K CC nm bm lX) (hm:X.mg xn=some (.ref CC)) (hg:Gl X xn)
  (hb:∀ xe pn E1,Lets (X.lg xe pn) E1->kI (X.lg xe pn) body (tb E1)) (hs:∀ e,kI (X.lh e) (b₀ :: nG) ts)
  (hi:X.N[i]? = some n:=by rfl) (hx:X.env.scope.names.lookup n=some .local:=by rfl) (vW:X.stack=X.env :: X.outer:=by rfl) (Bs:X.env.frame=some X.env.locals:=by rfl) (jn:(xn == ("__debug__":Str))=false:=by decide) :
  PS X (.Try body [.ExceptHandler (some (.Name xn np)) (some n) (b₀ :: nG) yu] [] [] pos) (GK X.K X.N.length i CC tb ts):=by
 intro pins s σ H D I h
 refine wpAny_Try_except ?_
 refine wpAny_mono (hb (λ ev s'=>∃ e C d σ' H',ev=.ref e/\Inv X pins σ' H' s'/\Lies C e d H' s'.heap/\BM X.K X.N.length i CC ts D ev (some C) H') (X.pn++pins) _ ?_ [] s σ H D I.lg h) (λ f s1 hf=>?_) ?_
 ·exact λ uh σ' H' s' e C d J x q=>⟨e,C,d,σ',H',rfl,J.uo,x,q⟩
 ·cases f with
  | next=>
   obtain⟨σ',H',J,q⟩:=hf
   exact wpAny_pure ⟨σ',H',J.uo,q⟩
  | brk=>obtain⟨σ',H',J,q⟩:=hf;exact⟨σ',H',J.uo,q⟩
  | cont=>obtain⟨σ',H',J,q⟩:=hf;exact⟨σ',H',J.uo,q⟩
  | ret u=>obtain⟨v,σ',H',J,r,q⟩:=hf;exact⟨v,σ',H',J.uo,r,q⟩
 ·rintro ev s1 ⟨e,C,d,σ1,H1,rfl,J,x,e',C',d',z1,z2,he,⟨Tz,T7,O3,xC,EM⟩,q⟩
  cases z1
  cases z2
  obtain⟨ox,vs,o1,o2,o3,o4,o5⟩:=x.ex
  have FT:X.A.frames=some (X.env :: X.outer):=by rw[<-vW];exact J.ok.frames
  have hl:s1.heap.FunFrames X.base (X.env :: X.outer):=by rw[<-vW];exact J.stack
  refine wX FT hl Bs o1 o4 o5 λ h' W=>?_
  have W:Way (tR X.stack) e ox s1.heap h':=by rw[vW];exact W
  have J1:Inv X pins σ1 H1 { s1 with heap:=h' }:=J.call (ch:=[]) (g':=s1.gens) (d':=s1.drawn) (t':=s1.toks) (W.un x.Cg λ _ z=>z) (W.aX J.oB x.Cg o1 o2 o3 J.aX) J.bare λ _ z=>nomatch z
  obtain⟨Qi,p1,p2,p3⟩:=W.exc
  refine wpAny_handleBy_cons (codeAny_handlers_test ?_) (by intro z;cases z)
  refine kL (X:=X.lh e) J1.lh hg hm ?_ jn
  refine A7 J1.jl xC xc p1 o2 ?_
  rw[EM]
  refine codeAny_handlers_suite_as (yB p1 rfl p3 λ h2 k=>?_)
  have J2:Inv X pins σ1 H1 { s1 with heap:=h2 }:=J1.un (h':=h2) (t':=s1.toks) (Un.kept k) (J1.aX.kept k)
  refine jR (J2.Jl he) hN hi (.inl hx) (v:=.ref e) rfl (λ s3 J3=>?_) (.inr hx)
  refine wpAny_mono (hs e pins s3 _ _ (FW i D) J3.lh (q σ1 J.len)) (λ f s4 hf=>?_) λ _ _ z=>z.elim
  have EW:∀ {σ':St}{H':Hp}{Q:Unit->Shared->Prop},Inv (X.lh e) pins σ' H' s4->(∀ s5,Inv X pins (σ'.set i none) H' s5->Q () s5)->wpAny (model X.prog X.w) X.A (do bindName X.env n .none;unbindBehindTheSuite X.env n yu) Q X.xe s4:=λ J4 k=>EV (J4.KJ J.ok.hd) hN hi hx k
  cases f with
  | next=>obtain⟨σ',H',J4,q4⟩:=hf;exact EW J4 λ s5 J5=>⟨_,H',J5,q4⟩
  | brk=>obtain⟨σ',H',J4,q4⟩:=hf;exact EW J4 λ s5 J5=>⟨_,H',J5,q4⟩
  | cont=>obtain⟨σ',H',J4,q4⟩:=hf;exact EW J4 λ s5 J5=>⟨_,H',J5,q4⟩
  | ret u=>obtain⟨v,σ',H',J4,r,q4⟩:=hf;exact EW J4 λ s5 J5=>⟨v,_,H',J5,r,q4⟩
end L2
namespace Mm
open PySem L2
def kZ (T:Tx)(E:XK):gJ:=λ c _ _ H=>∀ e,H e=none->c.fs=[]->E (.ref e) (some (T.cl c.cls)) (upd H e (CF (T.cl c.cls) e none))
structure Ls (T:Tx)(X:Cx)(XE:gJ):Prop where
 ex:∃ E,Lets X E/\∀ c ρ s H,XE c ρ s H->kZ T E c ρ s H
section
variable {T:Tx}{XE:gJ}{X:Cx}{pos:Pos}
theorem Jy:Ls T X yQ:=⟨⟨E0,λ _ _ _ _ _ _ _ _ _ z=>z.elim,λ _ _ _ _ z=>z.elim⟩⟩
theorem uy {P:Program}{w:World}{K:PySem.W.Frag}{mg:Str->Option Value}{base:Heap}{N:List Str}{qual:Str}{scope:Scope}{f:Addr}{cd:Value}{A:Around}{outer:List Env}{s:Shared}{H:Hp}{E:XK}:Ls T (jG (nF P w) P w K mg base N qual scope f cd A outer s H E) (kZ T E):=⟨⟨E,Ex,λ _ _ _ _ z=>z⟩⟩
theorem An {P:Program}{w:World}{K:PySem.W.Frag}{mg:Str->Option Value}{base:Heap}{N:List Str}{qual:Str}{scope:Scope}{f:Addr}{cd:Value}{A:Around}{outer:List Env}{s:Shared}{H:Hp}{E:XK}:PassesOwn (model P w) (A.deeper (PyProof.Rows.envOfC qual scope s.heap.objs.size f cd)) (PyProof.Rows.envOfC qual scope s.heap.objs.size f cd) (jG (nF P w) P w K mg base N qual scope f cd A outer s H E).xe:=PassesOwn.leaving
def yM (T:Tx)(n:Nat)(F:List AV->S->R AV):Sp:=λ vs H Q E=>vs.length=n/\∃ ρ s args,SR T ρ s H/\aO T ρ H args vs/\Out T (kZ T E) (rV T) ρ H (F args s) Q
theorem sT {P:Program}{w:World}{mg:Str->Option Value}{base:Heap}{x qual:Str}{st:Stmt}{f:Addr}{fd:FuncData}{N ps:List Str}{k:Nat}{body:Ms}(F:Cc T.K x qual st f fd)(S:iD N ps (ax st))
  (hb:∀ (dG:Value) (A:Around) (outer:List Env) (s:Shared) (H:Hp) (E:XK),df k (A.deeper (PyProof.Rows.envOfC qual (ax st) s.heap.objs.size f dG))->kI (jG (nF P w) P w T.K mg base N qual (ax st) f dG A outer s H E) (bK st) (tS T (kZ T E) body)) :
  gy P w T.K mg base (nF P w) (k+1) f fd ps (yM T ps.length (eL N.length body)):=by
 obtain⟨oc,od,kV,doc,pm,an,dG,ct,qp,rfl,lk,xh⟩:=F.ex
 refine FZ lk xh S (λ vs H Q E h=>h.1) λ A outer s H vs Q E hr ⟨hl,ρ,qj,args,sr,va,ho⟩=>?_
 refine⟨_,hb dG A outer s H E hr,ρ,_,qj,sr,uM N va,?_⟩
 unfold eL at ho
 cases e:body (args.map some++List.replicate (N.length - args.length) none) qj with
 | nx e1 s1=>simp only[e]at ho;exact λ ρ2 H2 σ2 u sr er=>ho ρ2 H2 .aC u sr (oY (T:=T) (ρ:=ρ2) (H:=H2))
 | rt v s1=>simp only[e]at ho;exact ho
 | ex c s1=>simp only[e]at ho;exact ho
 | bk v s1=>simp only[e]at ho;exact ho.elim
 | ct v s1=>simp only[e]at ho;exact ho.elim
 | bad=>simp only[e]at ho;exact ho.elim
theorem Out.xe {α β:Type}{XE':gJ}{rl:Rl α β}{ρ:List Addr}{H:Hp}{r:R α}{Q:β->Hp->Prop}(h:Out T XE rl ρ H r Q)(k:∀ c ρ s H,XE c ρ s H->XE' c ρ s H):Out T XE' rl ρ H r Q:=by
 cases r with
 | ok v s=>exact h
 | ex c s=>exact λ ρ' H' u sr=>k _ _ _ _ (h ρ' H' u sr)
 | bad=>exact h
theorem B2 {E:XK}{n:Nat}{F:List AV->S->R AV}{r:eG}{σ:St}{H:Hp}{Q:VK}(k:∀ c ρ s H,XE c ρ s H->kZ T E c ρ s H)(h:tE T XE (aE n F r) σ H Q):zu (yM T n F) [] E (tP T XE r) σ H Q:=by
 obtain⟨ρ,env,s,hs,he,ho⟩:=h
 refine step hs he ho λ vs s1 ρ1 H1 xs _ u1 aT cz aN az=>?_
 obtain⟨hl,az⟩:=az.a9
 have aN:aO T ρ1 H1 vs xs:=aN
 rw[List.append_nil]
 exact⟨by rw[<-aN.length];exact hl,ρ1,s1,vs,aT,aN,az.xe k⟩
structure gK (P:Program)(w:World)(T:Tx)(mg:Str->Option Value)(base:Heap)(nm:Str)(n k:Nat)(Fn:List AV->S->R AV):Prop where
 ex:∃ f fd ps,gy P w T.K mg base (nF P w) k f fd ps (yM T n Fn)/\Binds T.K fd ps []/\mg nm=some (.ref f)/\PySem.W.keepIn T.K (.ref f)=true
theorem Lg {k n:Nat}{Fn:List AV->S->R AV}{x:Str}{p:Pos}{e:Expr}{es:List Expr}{r:eG}(h:gK X.prog X.w T X.mg X.base x n k Fn)(hr:df k X.A)(ha:PA X (e :: es) (tP T XE r)) (ls:Ls T X XE)(hK:X.K=T.K:=by rfl)(hg:Gl X x:=by rfl)(jn:(x == ("__debug__":Str))=false:=by decide) (he:starEach (e :: es) X.env=(false,eval e X.env) :: starEach es X.env:=by rfl) (fj:(backTo pos (starEach es X.env)).any (·.1)=false:=by rfl) :
  PE X (.Call (.Name x p) (e :: es) [] pos) (tE T XE (aE n Fn r)):=by
 obtain⟨f,fd,ps,G,hb,hm,hk⟩:=h.ex
 obtain⟨E,l,hE⟩:=ls.ex
 exact PE.imp (DH (E:=E) (by rw[hK];exact G) hr hg hm (by rw[hK];exact hk) (by rw[hK];exact hb) .nil l.passes ha jn he fj) λ _ _ _ h=>B2 hE h
theorem Il {k:Nat}{Fn:List AV->S->R AV}{x:Str}{p:Pos}(h:gK X.prog X.w T X.mg X.base x 0 k Fn)(hr:df k X.A)(ls:Ls T X XE)(hK:X.K=T.K:=by rfl)(hg:Gl X x:=by rfl)(jn:(x == ("__debug__":Str))=false:=by decide) :
  PE X (.Call (.Name x p) [] [] pos) (tE T XE (aE 0 Fn ae)):=by
 obtain⟨f,fd,ps,G,hb,hm,hk⟩:=h.ex
 obtain⟨E,l,hE⟩:=ls.ex
 exact PE.imp (Aj (E:=E) (by rw[hK];exact G) hr hg hm (by rw[hK];exact hk) (by rw[hK];exact hb) .nil l.passes jn) λ σ H Q h=>by
  obtain⟨ρ,env,s,hs,he,ho⟩:=h
  exact⟨rfl,ρ,s,[],hs,.nil,Out.xe (show Out T XE (rV T) ρ H (Fn [] s) Q from ho) hE⟩
def FE (c:Nat)(r:eG):Ms:=λ env s=>(r env s).dO λ vs s1=>if vs.length<=1000 then .ex ⟨c,[]⟩ s1 else .bad
theorem AQ {c:Nat}{nm:Str}{bm:List Value}{xn:Str}{np bE:Pos}{a:Expr}{as:List Expr}{r:eG}(x:hV T.K (T.cl c) nm bm none) (hk:PySem.W.keepIn T.K (.ref (T.cl c))=true) (hm:X.mg xn=some (.ref (T.cl c))) (ls:Ls T X XE)(ha:PA X (a :: as) (tP T XE r)) (hK:X.K=T.K:=by rfl)(hc:X.calm=true:=by rfl)(hg:Gl X xn:=by rfl)
  (jn:(xn == ("__debug__":Str))=false:=by decide) (he:starEach (a :: as) X.env=(false,eval a X.env) :: starEach as X.env:=by rfl) (fj:(backTo bE (starEach as X.env)).any (·.1)=false:=by rfl) :
  PS X (.Raise (some (.Call (.Name xn np) (a :: as) [] bE)) none pos) (tS T XE (FE c r)):=by
 obtain⟨E,l,hE⟩:=ls.ex
 refine PS.imp (zS (E:=E) (by rw[hK];exact x) (by rw[hK];exact hk) hg hm hc l ha jn he fj) λ D σ H ⟨ρ,env,s,hs,he,ho⟩=>fu hs he ho λ vs s1 ρ1 H1 xs _ u1 aT cz aN az=>?_
 have aN:aO T ρ1 H1 vs xs:=aN
 by_cases hl:vs.length<=1000
 ·rw[if_pos hl]at az
  refine⟨by rw[<-aN.length,sizeLine_eq];omega,λ e hn=>hE _ _ _ _ (az ρ1 H1 .refl aT) e hn rfl⟩
 ·rw[if_neg hl]at az
  exact az.elim
def FV (i:Nat):RS->RS
 | .nx e s=>.nx (e.set i none) s
 | .bk e s=>.bk (e.set i none) s
 | .ct e s=>.ct (e.set i none) s
 | .rt v s=>.rt v s
 | _=>.bad
def mX (n i:Nat)(sub:Nat->Bool)(b h:Ms):Ms:=λ env s=>match b env s with
 | .ex c s1=>if sub c.cls=true then FV i (h ((List.replicate n none).set i (some (.ref s1.length))) (s1++[.exc c.cls])) else .bad
 | r=>r
theorem ER.unset {ρ:List Addr}{H:Hp}{env:En}{σ:St}(h:ER T ρ H env σ)(i:Nat):ER T ρ H (env.set i none) (σ.set i none):=by
 refine⟨by simp[h.len],λ j w e=>?_⟩
 by_cases qf:i=j
 ·subst qf
  rw[List.getElem?_set]at e
  simp at e
 ·rw[List.getElem?_set_ne qf]at e ⊢
  exact h.get j w e
theorem wy (H:Hp)(e:Addr)(a b:HO):upd (upd H e a) e b=upd H e b:=by
 funext c
 by_cases hc:c=e
 ·subst hc;rw[aw,aw]
 ·rw[ah hc,ah hc,ah hc]
theorem HF {body nG:List Stmt}{b₀:Stmt}{xn n:Str}{np yu:Pos}{i N:Nat}{CC:Addr}{nm:Str}{bm:List Value}{lX:Option Value}{sub:Nat->Bool}{b h:Ms}
  (hN:X.N.Nodup) (xc:hV T.K CC nm bm lX) (hm:X.mg xn=some (.ref CC)) (EM:∀ c,sub c=true->∃ nm bm lX,hV T.K (T.cl c) nm bm lX/\(Value.ref (T.cl c) :: bm).contains (.ref CC)=true)
  (hb:∀ xe pn XE1,Ls T (X.lg xe pn) XE1->kI (X.lg xe pn) body (tS T XE1 b)) (hs:∀ e,kI (X.lh e) (b₀ :: nG) (tS T yQ h)) (hK:X.K=T.K:=by rfl) (hg:Gl X xn:=by rfl)
  (hi:X.N[i]? = some n:=by rfl) (hx:X.env.scope.names.lookup n=some .local:=by rfl) (hn:X.N.length=N:=by rfl) (vW:X.stack=X.env :: X.outer:=by rfl) (Bs:X.env.frame=some X.env.locals:=by rfl) (jn:(xn == ("__debug__":Str))=false:=by decide) :
  PS X (.Try body [.ExceptHandler (some (.Name xn np)) (some n) (b₀ :: nG) yu] [] [] pos) (tS T XE (mX N i sub b h)):=by
 refine PS.imp (zR (tb:=λ E1=>tS T (kZ T E1) b) hN (by rw[hK];exact xc) hm hg (λ xe pn E1 l=>hb xe pn _ ⟨⟨E1,l,λ _ _ _ _ z=>z⟩⟩) hs hi hx vW Bs jn) λ D σ H ⟨ρ,env,s,sr,er,ho⟩=>?_
 refine⟨ρ,env,s,sr,er,?_⟩
 unfold mX at ho
 cases eb:b env s with
 | nx e s1=>simp only[eb]at ho;exact ho
 | rt v s1=>simp only[eb]at ho;exact ho
 | bk e s1=>simp only[eb]at ho;exact ho
 | ct e s1=>simp only[eb]at ho;exact ho
 | bad=>simp only[eb]at ho;exact ho
 | ex c s1=>
  simp only[eb]at ho
  intro ρ' H' u jd e EO TX
  by_cases hc:sub c.cls=true
  ·rw[if_pos hc]at ho
   refine⟨e,T.cl c.cls,none,rfl,rfl,aw ..,by rw[hK];exact EM _ hc,λ σ' hl=>?_⟩
   rw[wy]
   have u2:Up ρ H (ρ'++[e]) (upd H' e (JQ (T.cl c.cls) e none)):=(u.trans (jd.eK EO)).add (u.live e EO)
   have fD:SR T (ρ'++[e]) (s1++[.exc c.cls]) (upd H' e (JQ (T.cl c.cls) e none)):=(jd.new EO).add (jd.out EO) (aw ..)
   have lS:ER T (ρ'++[e]) (upd H' e (JQ (T.cl c.cls) e none)) ((List.replicate N none).set i (some (.ref s1.length))) (σ'.set i (some (.ref e))):=by
    refine ER.set ⟨by rw[List.length_replicate,<-hn];exact hl.symm,λ j v ej=>?_⟩ (lu ?_)
    ·rw[List.getElem?_replicate]at ej
     split at ej<;>cases ej
    ·rw[List.getElem?_append_right (by rw[jd.len];omega),jd.len];simp
   refine⟨_,_,_,fD,lS,?_⟩
   have ho:=fm.up u2 ho
   cases eh:h ((List.replicate N none).set i (some (.ref s1.length))) (s1++[.exc c.cls]) with
   | nx e1 s2=>rw[eh]at ho;exact λ ρ3 H3 σ3 u3 nH uN=>ho ρ3 H3 _ u3 nH (uN.unset i)
   | bk e1 s2=>rw[eh]at ho;exact λ ρ3 H3 σ3 u3 nH uN=>ho ρ3 H3 _ u3 nH (uN.unset i)
   | ct e1 s2=>rw[eh]at ho;exact λ ρ3 H3 σ3 u3 nH uN=>ho ρ3 H3 _ u3 nH (uN.unset i)
   | rt v s2=>rw[eh]at ho;exact ho
   | ex c2 s2=>rw[eh]at ho;exact ho.elim
   | bad=>rw[eh]at ho;exact ho.elim
  ·rw[if_neg hc]at ho
   exact ho.elim
end
end Mm
namespace L2
open PySem PySem.Spec PySem.W PyProof.Rows
def Kg (K:PySem.W.Frag):List V->Hp->VK->Prop:=λ xs H Q=>∃ (e C tp:Addr) (cs:List Addr) (b:Bool),xs=[.ref e,.ref tp]/\NN H e C/\Fu K C/\H tp=some (.tup (cs.map V.ref))/\kitAny K (.ref C) (cs.map Value.ref)=some b/\Q (.bl b) H
theorem qF:∀ {cs:List Addr}{us:List Value},Vals (cs.map V.ref) us->us=cs.map Value.ref
 | [],_,r=>by cases r;rfl
 | c :: cs,_,r=>by
  cases r with
  | cons r1 r2=>
   cases (show _=Value.ref c from r1)
   rw[qF r2];rfl
theorem yH {X:Cx}:dP X (.builtin "isinstance") (Kg X.K):=by
 rintro pins s σ H xs us Q I rv ⟨e,C,tp,cs,b,rfl,hx,g,ht,kb,q⟩
 obtain⟨ox,od,J⟩:=hx.inst I
 obtain⟨u,w',rfl,r1,r2⟩:=vals2 rv
 cases (show _=Value.ref e from r1)
 cases (show _=Value.ref tp from r2)
 obtain⟨z,ws,r3,ot,o1,o2,n,o3⟩:=I.aX _ _ ht
 obtain⟨oc,odd,RL,qp⟩:=ot
 cases (show oc=_ from o2)
 cases (show RL=_ from o3)
 cases qF r3
 exact PySem.W.kia_tup (uC g) I.jl ⟨ox,od,J⟩ o1 kb (λ z=>nomatch z) λ tk=>⟨.bl b,H,I.tok _,rfl,q⟩
def tK (vs:List V):TA:=λ _ H Q=>Q vs H
section
variable {X:Cx}{e:Expr}{es:List Expr}{v:V}{vs:List V}
theorem wL:PA X [] (tK []):=λ pos pins s σ H Q I h=>fF pos pins s σ H Q I h
theorem Am (h1:PE X e (tC v)) (h2:PA X es (tK vs)) (hs:starEach (e :: es) X.env=(false,eval e X.env) :: starEach es X.env:=by rfl):PA X (e :: es) (tK (v :: vs)):=λ pos pins s σ H Q I h=>cb h1 h2 hs pos pins s σ H Q I h
end
end L2
namespace Mm
open PySem L2
section
variable {T:Tx}{XE:gJ}{X:Cx}{pos:Pos}
def P4 (v:V)(c:Value):Prop:=match v with|.ty n=>c=Value.type n|.ref a=>c=Value.ref a|_=>False
def bH (ans:Nat->Option Bool)(v:AV)(s:S):R AV:=match v with
 | .ref i=>match s[i]? with
  | some (.exc c)=>need (ans c) λ b=>.ok (.bl b) s
  | _=>.bad
 | _=>.bad
theorem w_ {ans:Nat->Option Bool}{ρ:List Addr}{H:Hp}{s:S}{v:AV}{x:V}{Q:VK}(sr:SR T ρ s H)(va:VR T ρ H v x)(ho:Out T XE (rV T) ρ H (bH ans v s) Q) :
  ∃ e c b,x=.ref e/\H e=some (M9 (T.cl c) e)/\ans c=some b/\Out T XE (rV T) ρ H (.ok (.bl b) s) Q:=by
 unfold bH at ho
 split at ho
 ·rename_i i
  obtain⟨a,e1,rfl⟩:=va.fK
  split at ho
  ·rename_i c ec
   obtain⟨b,eb,ho⟩:=ho.ar
   obtain⟨a',e2,h1⟩:=sr.obj _ _ ec
   rw[e1]at e2
   cases e2
   exact⟨a,c,b,rfl,h1,eb,ho⟩
  ·exact ho.elim
 ·exact ho.elim
theorem A5 {ans:Nat->Option Bool}{p:Pos}{e cl:Expr}{m:Ev}{v:V}{c:Value}(hv:PE X cl (tC v)) (R':P4 v c)(IY:∀ C b,ans C=some b->Fu T.K (T.cl C)/\PySem.W.kitOne T.K (.ref (T.cl C)) c=some b) (hm:X.mg "isinstance"=none)(ha:PE X e (tE T XE m)) (hK:X.K=T.K:=by rfl)(hg:Gl X "isinstance":=by rfl)
  (he:starEach [e,cl] X.env=(false,eval e X.env) :: starEach [cl] X.env:=by rfl) (xf:starEach [cl] X.env=(false,eval cl X.env) :: starEach [] X.env:=by rfl) (fj:(backTo pos (starEach [cl] X.env)).any (·.1)=false:=by rfl) :
  PE X (.Call (.Name "isinstance" p) [e,cl] [] pos) (tE T XE (cC (bH ans) m)):=
 PE.imp (eU B3 hg hm Ro.boot_isinstance (cb ha (cb hv fF xf) he) (by decide) (by decide) he fj) λ σ H Q ⟨ρ,env,s,hs,he,ho⟩=>
  step hs he ho λ w s1 ρ1 H1 x _ u1 aT cz aN az=>by
   obtain⟨a,C,b,rfl,h1,h2,h3⟩:=w_ aT aN az
   obtain⟨k1,k2⟩:=IY C b h2
   exact⟨a,T.cl C,v,c,b,rfl,R',.inl h1,by rw[hK];exact k1,by rw[hK];exact k2,h3.aS aT dW⟩
theorem Eh {ans:Nat->Option Bool}{p p2:Pos}{e:Expr}{cls:List Expr}{x1:Nat}{m:Ev}{cs:List Addr}(hv:PA X cls (tK (cs.map V.ref))) (hl:cs.length<=1000)(IY:∀ C b,ans C=some b->Fu T.K (T.cl C)/\PySem.W.kitAny T.K (.ref (T.cl C)) (cs.map Value.ref)=some b) (hm:X.mg "isinstance"=none)(ha:PE X e (tE T XE m)) (hK:X.K=T.K:=by rfl)(hg:Gl X "isinstance":=by rfl)
  (he:starEach [e,.Tuple cls x1 p2] X.env=(false,eval e X.env) :: starEach [.Tuple cls x1 p2] X.env:=by rfl) (xf:starEach [.Tuple cls x1 p2] X.env=(false,eval (.Tuple cls x1 p2) X.env) :: starEach [] X.env:=by rfl) (fj:(backTo pos (starEach [.Tuple cls x1 p2] X.env)).any (·.1)=false:=by rfl) :
  PE X (.Call (.Name "isinstance" p) [e,.Tuple cls x1 p2] [] pos) (tE T XE (cC (bH ans) m)):=
 PE.imp (eU yH hg hm Ro.boot_isinstance (cb ha (cb (Aa hv) fF xf) he) (by decide) (by decide) he fj) λ σ H Q ⟨ρ,env,s,hs,he,ho⟩=>
  step hs he ho λ w s1 ρ1 H1 x _ u1 aT cz aN az=>by
   obtain⟨a,C,b,rfl,h1,h2,h3⟩:=w_ aT aN az
   obtain⟨k1,k2⟩:=IY C b h2
   refine⟨by rw[List.length_map,sizeLine_eq];omega,λ tp hn=>⟨a,T.cl C,tp,cs,b,rfl,.inl ?_,by rw[hK];exact k1,aw ..,by rw[hK];exact k2,?_⟩⟩
   ·rw[ah (aJ h1 hn)];exact h1
   ·exact(Out.up (aT.eK hn) h3).aS (aT.new hn) dW
end
end Mm
namespace Mm
open PySem L2 PySem.W
def NQ:List Str:=["RoyalError","BadFraction","Taken","NoName","TooMuch","NoRate","NoneLeft","Endless","BadRow"]
def gP (i:Nat):Str:=NQ.getD i ""
def yY (T:Tx)(i:Nat):List Value:=if i=0 then oK else .ref (T.cl 0) :: oK
structure Xs (T:Tx)(mg:Str->Option Value):Prop where
 c:∀ i,i < 9->∃ lX,hV T.K (T.cl i) (gP i) (yY T i) lX/\(i < 7->lX=none)
 is:∀ i,i < 9->Fu T.K (T.cl i)
 kp:∀ i,i < 9->PySem.W.keepIn T.K (.ref (T.cl i))=true
 gl:∀ i,i < 9->mg (gP i)=some (.ref (T.cl i))
theorem yX:∀ i,i < 9->∀ j,j < 9->gP i=gP j->i=j:=by decide +kernel
theorem Fv {K:PySem.W.Frag}{C:Addr}{n n':Str}{b b':List Value}{i i':Option Value}(x:hV K C n b i)(y:hV K C n' b' i'):n=n':=by
 obtain⟨cd,h1,_,_,h2⟩:=x.cls
 obtain⟨T6,h3,_,_,h4⟩:=y.cls
 rw[h1]at h3
 cases h3
 exact h2.symm.trans h4
section
variable {T:Tx}{XE:gJ}{X:Cx}{pos:Pos}{mg:Str->Option Value}
theorem Xs.inj (x:Xs T mg){i j:Nat}(hi:i < 9)(hj:j < 9)(e:T.cl i=T.cl j):i=j:=by
 obtain⟨_,a,_⟩:=x.c i hi
 obtain⟨_,b,_⟩:=x.c j hj
 rw[e]at a
 exact yX i hi j hj (Fv a b)
def aj (i c:Nat):Bool:=c == i || i == 0
theorem Xs.has (x:Xs T mg){c i:Nat}(hc:c < 9)(hi:i < 9):(Value.ref (T.cl c) :: yY T c).contains (.ref (T.cl i))=aj i c:=by
 have nb:oK.contains (.ref (T.cl i))=false:=by simp[List.contains_cons]
 have eqv:∀ a b:Addr,(Value.ref a == Value.ref b)=decide (a=b):=λ a b=>by
  by_cases h:a=b
  ·subst h;simp
  ·simp[h]
 unfold aj yY
 rw[List.contains_cons,eqv]
 by_cases h:c=i
 ·subst h;simp
 ·have h1:T.cl i≠T.cl c:=λ e=>h (x.inj hc hi e.symm)
  by_cases h0:c=0
  ·subst h0
   have:¬ i=0:=λ e=>h e.symm
   simp[h1,nb,h,this]
  ·rw[if_neg h0,List.contains_cons,eqv,nb]
   by_cases Pn:i=0
   ·subst Pn;simp
   ·have h2:T.cl i≠T.cl 0:=λ e=>Pn (x.inj hi (by decide) e)
    simp[h1,h2,h,Pn]
theorem Xs.PH (x:Xs T mg)(c:Nat):(Value.ref (T.cl c) :: yY T c).contains (.type "ValueError")=true:=by
 have nb:oK.contains (.type "ValueError")=true:=by decide +kernel
 unfold yY
 by_cases h0:c=0
 ·rw[if_pos h0,List.contains_cons,nb,Bool.or_true]
 ·rw[if_neg h0,List.contains_cons,List.contains_cons,nb,Bool.or_true,Bool.or_true]
theorem Xs.Ln (x:Xs T mg){c i:Nat}(hc:c < 9)(hi:i < 9):kitOne T.K (.ref (T.cl c)) (.ref (T.cl i))=some (aj i c):=by
 obtain⟨_,a,_⟩:=x.c c hc
 obtain⟨_,b,_⟩:=x.c i hi
 rw[a.Ln _ (.inl ⟨_,_,_,_,rfl,b⟩),x.has hc hi]
theorem Xs.OW (x:Xs T mg){c:Nat}(hc:c < 9):kitOne T.K (.ref (T.cl c)) (.type "ValueError")=some true:=by
 obtain⟨_,a,_⟩:=x.c c hc
 rw[a.Ln _ (.inr ⟨_,rfl,by decide +kernel⟩),x.PH]
theorem Xs.Lm (x:Xs T mg){c:Nat}(hc:c < 9):∀ {is:List Nat},(∀ i∈is,i < 9)->kitAny T.K (.ref (T.cl c)) ((is.map T.cl).map Value.ref)=some (is.any λ i=>aj i c)
 | [],_=>rfl
 | i :: is,h=>by
  show(match kitOne T.K (.ref (T.cl c)) (.ref (T.cl i)) with
   | some true=>some true
   | some false=>kitAny T.K (.ref (T.cl c)) ((is.map T.cl).map Value.ref)
   | none=>none)=_
  rw[x.Ln hc (h i (.head _)),List.any_cons]
  cases aj i c with
  | true=>rfl
  | false=>rw[Bool.false_or];exact Xs.Lm x hc λ j hj=>h j (.tail _ hj)
def jz (i c:Nat):Option Bool:=if c < 9 then some (aj i c) else none
def yK (c:Nat):Option Bool:=if c < 9 then some true else none
def qA (is:List Nat)(c:Nat):Option Bool:=if c < 9 then some (is.any λ i=>aj i c) else none
theorem KW {c:Nat}{np bE:Pos}{a:Expr}{as:List Expr}{r:eG}(x:Xs T X.mg)(hc:c < 7)(ls:Ls T X XE)(ha:PA X (a :: as) (tP T XE r)) (hK:X.K=T.K:=by rfl)(LM:X.calm=true:=by rfl)(hg:Gl X (gP c):=by rfl)
  (jn:(gP c == ("__debug__":Str))=false:=by decide +kernel) (he:starEach (a :: as) X.env=(false,eval a X.env) :: starEach as X.env:=by rfl) (fj:(backTo bE (starEach as X.env)).any (·.1)=false:=by rfl) :
  PS X (.Raise (some (.Call (.Name (gP c) np) (a :: as) [] bE)) none pos) (tS T XE (FE c r)):=by
 obtain⟨lX,h1,h2⟩:=x.c c (by omega)
 cases h2 hc
 exact AQ h1 (x.kp c (by omega)) (x.gl c (by omega)) ls ha hK LM hg jn he fj
theorem KU {body nG:List Stmt}{b₀:Stmt}{n:Str}{np yu:Pos}{i ci N:Nat}{b h:Ms}(x:Xs T X.mg)(Pz:ci < 9)(hN:X.N.Nodup)
  (hb:∀ xe pn XE1,Ls T (X.lg xe pn) XE1->kI (X.lg xe pn) body (tS T XE1 b)) (hs:∀ e,kI (X.lh e) (b₀ :: nG) (tS T yQ h)) (hK:X.K=T.K:=by rfl) (hg:Gl X (gP ci):=by rfl)
  (hi:X.N[i]? = some n:=by rfl) (hx:X.env.scope.names.lookup n=some .local:=by rfl) (hn:X.N.length=N:=by rfl) (vW:X.stack=X.env :: X.outer:=by rfl) (Bs:X.env.frame=some X.env.locals:=by rfl) (jn:(gP ci == ("__debug__":Str))=false:=by decide +kernel) :
  PS X (.Try body [.ExceptHandler (some (.Name (gP ci) np)) (some n) (b₀ :: nG) yu] [] [] pos) (tS T XE (mX N i (λ c=>decide (c < 9) && aj ci c) b h)):=by
 obtain⟨lX,h1,_⟩:=x.c ci Pz
 refine HF hN h1 (x.gl ci Pz) (λ c hc=>?_) hb hs hK hg hi hx hn vW Bs jn
 rw[Bool.and_eq_true,decide_eq_true_iff]at hc
 obtain⟨O3,h2,_⟩:=x.c c hc.1
 exact⟨_,_,_,h2,(x.has hc.1 Pz).trans hc.2⟩
theorem Ic {i:Nat}{p p2:Pos}{e:Expr}{m:Ev}(x:Xs T X.mg)(hi:i < 9)(hm:X.mg "isinstance"=none)(ha:PE X e (tE T XE m)) (hK:X.K=T.K:=by rfl)(hg:Gl X "isinstance":=by rfl)(IT:Gl X (gP i):=by rfl) (jn:(gP i == ("__debug__":Str))=false:=by decide +kernel)
  (he:starEach [e,.Name (gP i) p2] X.env=(false,eval e X.env) :: starEach [.Name (gP i) p2] X.env:=by rfl) (xf:starEach [.Name (gP i) p2] X.env=(false,eval (.Name (gP i) p2) X.env) :: starEach [] X.env:=by rfl) (fj:(backTo pos (starEach [.Name (gP i) p2] X.env)).any (·.1)=false:=by rfl) :
  PE X (.Call (.Name "isinstance" p) [e,.Name (gP i) p2] [] pos) (tE T XE (cC (bH (jz i)) m)):=
 A5 (c:=.ref (T.cl i)) (sm (v:=.ref (T.cl i)) IT (x.gl i hi) rfl jn) rfl (λ C b h=>by
  unfold jz at h
  split at h
  ·rename_i hc
   cases h
   exact⟨x.is C hc,x.Ln hc hi⟩
  ·cases h) hm ha hK hg he xf fj
theorem oq:bootBuiltins "ValueError"=some (.type "ValueError"):=by decide +kernel
theorem Ib {p p2:Pos}{e:Expr}{m:Ev}(x:Xs T X.mg)(hm:X.mg "isinstance"=none)(Pj:X.mg "ValueError"=none)(ha:PE X e (tE T XE m)) (hK:X.K=T.K:=by rfl)(hg:Gl X "isinstance":=by rfl)(IT:Gl X "ValueError":=by rfl)
  (he:starEach [e,.Name "ValueError" p2] X.env=(false,eval e X.env) :: starEach [.Name "ValueError" p2] X.env:=by rfl) (xf:starEach [.Name "ValueError" p2] X.env=(false,eval (.Name "ValueError" p2) X.env) :: starEach [] X.env:=by rfl) (fj:(backTo pos (starEach [.Name "ValueError" p2] X.env)).any (·.1)=false:=by rfl) :
  PE X (.Call (.Name "isinstance" p) [e,.Name "ValueError" p2] [] pos) (tE T XE (cC (bH yK) m)):=
 A5 (c:=.type "ValueError") (wI (v:=.ty "ValueError") IT Pj oq rfl) rfl (λ C b h=>by
  unfold yK at h
  split at h
  ·rename_i hc
   cases h
   exact⟨x.is C hc,x.OW hc⟩
  ·cases h) hm ha hK hg he xf fj
theorem wM {i:Nat}{p:Pos}{es:List Expr}{is:List Nat}(x:Xs T X.mg)(hi:i < 9)(h:PA X es (tK ((is.map T.cl).map V.ref))) (IT:Gl X (gP i):=by rfl) (jn:(gP i == ("__debug__":Str))=false:=by decide +kernel) (hs:starEach (.Name (gP i) p :: es) X.env=(false,eval (.Name (gP i) p) X.env) :: starEach es X.env:=by rfl) :
  PA X (.Name (gP i) p :: es) (tK (((i :: is).map T.cl).map V.ref)):=Am (sm (v:=.ref (T.cl i)) IT (x.gl i hi) rfl jn) h hs
theorem Ei {is:List Nat}{p p2:Pos}{e:Expr}{cls:List Expr}{x1:Nat}{m:Ev}(x:Xs T X.mg)(hi:is.all (· < 9)=true) (hl:is.length<=1000)(hm:X.mg "isinstance"=none)(hv:PA X cls (tK ((is.map T.cl).map V.ref))) (ha:PE X e (tE T XE m)) (hK:X.K=T.K:=by rfl)(hg:Gl X "isinstance":=by rfl)
  (he:starEach [e,.Tuple cls x1 p2] X.env=(false,eval e X.env) :: starEach [.Tuple cls x1 p2] X.env:=by rfl) (xf:starEach [.Tuple cls x1 p2] X.env=(false,eval (.Tuple cls x1 p2) X.env) :: starEach [] X.env:=by rfl) (fj:(backTo pos (starEach [.Tuple cls x1 p2] X.env)).any (·.1)=false:=by rfl) :
  PE X (.Call (.Name "isinstance" p) [e,.Tuple cls x1 p2] [] pos) (tE T XE (cC (bH (qA is)) m)):=
 Eh hv (by rw[List.length_map];exact hl) (λ C b h=>by
  unfold qA at h
  split at h
  ·rename_i hc
   cases h
   exact⟨x.is C hc,x.Lm hc λ i yP=>of_decide_eq_true (List.all_eq_true.mp hi i yP)⟩
  ·cases h) hm ha hK hg he xf fj
end
end Mm
namespace Ro
open PySem L2 Mm
section
variable {P:Program}{w:World}{T:Tx}{mg:Str->Option Value}{base:Heap}
theorem cK {x:Str}{st:Stmt}{k n:Nat}{body:Ms}(N:List Str)(D:Df T mg x st)(S:iD N (N.take n) (ax st))
  (hb:∀ (kV doc pm:Value) (an:Option Addr) (dG ct:Value) (us:List Value),us.length=(N.take n).length->bindArgs (PySem.W.fnOf x x (cS st) (bK st) (ax st) .none kV doc pm an dG ct) ⟨us,[]⟩=pure ((N.take n).zip us)) (hn:(N.take n).length=n)
  (h:∀ (f:Addr) (dG:Value) (A:Around) (outer:List Env) (s:Shared) (H:Hp) (E:XK),df k (A.deeper (PyProof.Rows.envOfC x (ax st) s.heap.objs.size f dG))->N.Nodup->Ls T (jG (nF P w) P w T.K mg base N x (ax st) f dG A outer s H E) (kZ T E)->kI (jG (nF P w) P w T.K mg base N x (ax st) f dG A outer s H E) (bK st) (tS T (kZ T E) body)) :
  gK P w T mg base x n (k+1) (eL N.length body):=by
 obtain⟨f,fd,F,m⟩:=D.ex
 have:=sT F S λ dG A outer s H E hr=>h f dG A outer s H E hr S.nd uy
 rw[hn]at this
 exact⟨f,fd,_,this,F.binds hb,m,F.kp⟩
theorem yA {k n:Nat}{f:Addr}{fd:FuncData}{ps:List Str}(hl:ps.length=n):gy P w T.K mg base (nF P w) k f fd ps (yM T n λ _ _=>.bad):=
 ⟨λ vs H Q E h=>h.1.trans hl.symm,λ A outer s H args us vs Q E _ _ _ _ h=>by obtain⟨_,ρ,st,a,_,_,z⟩:=h;exact z.elim⟩
theorem E5 {x:Str}{st:Stmt}{n k:Nat}(ps:List Str)(D:Df T mg x st)(hl:ps.length=n)
  (hb:∀ (kV doc pm:Value) (an:Option Addr) (dG ct:Value) (us:List Value),us.length=ps.length->bindArgs (PySem.W.fnOf x x (cS st) (bK st) (ax st) .none kV doc pm an dG ct) ⟨us,[]⟩=pure (ps.zip us)):gK P w T mg base x n k λ _ _=>.bad:=by
 obtain⟨f,fd,F,m⟩:=D.ex
 exact⟨f,fd,ps,yA hl,F.binds hb,m,F.kp⟩
end
end Ro
namespace Mm
open PySem L2
def qP (f:Str)(v:AV):List (Str × AV)->List (Str × AV)
 | []=>[(f,v)]
 | (g,x) :: r=>if g=f then (g,v) :: r else (g,x) :: qP f v r
section
variable {T:Tx}{XE:gJ}{X:Cx}{pos:Pos}
def n8 (T:Tx)(ρ:List Addr)(H:Hp)(fs:List (Str × AV)) (ks:List (Str × V)):Prop:=fs.map (·.1)=ks.map (·.1)/\aO T ρ H (fs.map (·.2)) (ks.map (·.2))
theorem n8.nil {ρ:List Addr}{H:Hp}:n8 T ρ H [] []:=⟨rfl,.nil⟩
theorem n8.nil_inv {ρ:List Addr}{H:Hp}{ks:List (Str × V)}(h:n8 T ρ H [] ks):ks=[]:=by
 have:=h.1
 cases ks with
 | nil=>rfl
 | cons a r=>simp at this
theorem n8.cons_inv {ρ:List Addr}{H:Hp}{g:Str}{v:AV}{fs:List (Str × AV)}{ks:List (Str × V)}(h:n8 T ρ H ((g,v) :: fs) ks):∃ x r,ks=(g,x) :: r/\VR T ρ H v x/\n8 T ρ H fs r:=by
 obtain⟨h1,h2⟩:=h
 cases ks with
 | nil=>simp at h1
 | cons a r=>
  obtain⟨g',x⟩:=a
  simp only[List.map_cons,List.cons.injEq]at h1
  obtain⟨y,ys,e,k1,k2⟩:=aO.cons_inv (show aO T ρ H (v :: fs.map (·.2)) (x :: r.map (·.2)) from h2)
  cases e
  obtain⟨rfl,h1⟩:=h1
  exact⟨x,r,rfl,k1,h1,k2⟩
theorem n8.cons {ρ:List Addr}{H:Hp}{g:Str}{v:AV}{x:V}{fs:List (Str × AV)}{ks:List (Str × V)}(h:VR T ρ H v x)(k:n8 T ρ H fs ks):n8 T ρ H ((g,v) :: fs) ((g,x) :: ks):=
 ⟨by simp[k.1],.cons h k.2⟩
theorem n8.get {ρ:List Addr}{H:Hp}{f:Str}{v:AV}:∀ {fs:List (Str × AV)}{ks:List (Str × V)},n8 T ρ H fs ks->fs.lookup f=some v->∃ x,ks.lookup f=some x/\VR T ρ H v x
 | [],_,_,e=>by cases e
 | (g,w) :: fs,ks,h,e=>by
  obtain⟨x,r,rfl,h1,h2⟩:=h.cons_inv
  rw[List.lookup_cons]at e ⊢
  by_cases q:(f == g)=true
  ·rw[q]at e ⊢
   cases e
   exact⟨x,rfl,h1⟩
  ·rw[Bool.eq_false_iff.mpr q]at e ⊢
   exact n8.get h2 e
theorem n8.aC {ρ:List Addr}{H:Hp}{f:Str}:∀ {fs:List (Str × AV)}{ks:List (Str × V)},n8 T ρ H fs ks->fs.lookup f=none->ks.lookup f=none
 | [],_,h,_=>by rw[h.nil_inv];rfl
 | (g,w) :: fs,ks,h,e=>by
  obtain⟨x,r,rfl,h1,h2⟩:=h.cons_inv
  rw[List.lookup_cons]at e ⊢
  by_cases q:(f == g)=true
  ·rw[q]at e;cases e
  ·rw[Bool.eq_false_iff.mpr q]at e ⊢
   exact n8.aC h2 e
theorem n8.put {ρ:List Addr}{H:Hp}{f:Str}{v:AV}{x:V}(k:VR T ρ H v x):∀ {fs:List (Str × AV)}{ks:List (Str × V)},n8 T ρ H fs ks->n8 T ρ H (qP f v fs) (jf f x ks)
 | [],_,h=>by rw[h.nil_inv];exact .cons k .nil
 | (g,w) :: fs,ks,h=>by
  obtain⟨y,r,rfl,h1,h2⟩:=h.cons_inv
  unfold qP jf
  by_cases q:g=f
  ·rw[if_pos q,if_pos q];exact .cons k h2
  ·rw[if_neg q,if_neg q];exact .cons h1 (n8.put k h2)
theorem n8.gr {ρ ρ':List Addr}{H H':Hp}{fs:List (Str × AV)}{ks:List (Str × V)}(u:Gr ρ H ρ' H')(h:n8 T ρ H fs ks):n8 T ρ' H' fs ks:=⟨h.1,h.2.gr u⟩
theorem n8.length {ρ:List Addr}{H:Hp}{fs:List (Str × AV)}{ks:List (Str × V)}(h:n8 T ρ H fs ks):fs.length=ks.length:=by
 have:=congrArg List.length h.1
 simpa using this
theorem SR.Bl {ρ:List Addr}{H:Hp}{s:S}(sr:SR T ρ s H){i c:Nat}{fs:List (Str × AV)}(e:s[i]? = some (.ins c fs)) {x:V}(h:VR T ρ H (.ref i) x):∃ (a dx:Addr) (ks:List (Str × V)),x=.ref a/\ρ[i]? = some a/\H a=some (.ins (T.cl c) dx ks)/\n8 T ρ H fs ks:=by
 obtain⟨a,e1,rfl⟩:=h.fK
 obtain⟨b,e2,dx,ks,h1,h2,h3⟩:=sr.obj i _ e
 rw[e1]at e2
 cases e2
 exact⟨a,dx,ks,rfl,e1,h1,h2,h3⟩
def mE (c:Nat)(v:AV)(s:S):Option (Nat × List (Str × AV)):=match v with
 | .ref i=>match s[i]? with
  | some (.ins c' fs)=>if c'=c then some (i,fs) else none
  | _=>none
 | _=>none
theorem pU {c i:Nat}{v:AV}{s:S}{fs:List (Str × AV)}(h:mE c v s=some (i,fs)):v=.ref i/\s[i]? = some (.ins c fs):=by
 unfold mE at h
 split at h
 ·rename_i j
  split at h
  ·rename_i c' L8 e
   split at h
   ·rename_i q
    cases h
    exact⟨rfl,by rw[e,q]⟩
   ·cases h
  ·cases h
 ·cases h
def cE (c:Nat)(f:Str)(v:AV)(s:S):R AV:=need (mE c v s) λ p=>need (p.2.lookup f) λ w=>.ok w s
theorem Ii {c:Nat}{f:Str}{e:Expr}{m:Ev}(cl:vd T.K (T.cl c)) (na:iR T.K (T.cl c) f) (he:PE X e (tE T XE m)) (hK:X.K=T.K:=by rfl)(hb:attributeBase e f X.env (eval e X.env)=eval e X.env:=by rfl):PE X (.Attribute e f pos) (tE T XE (cC (cE c f) m)):=
 PE.imp (Hj he hb) λ σ H Q ⟨ρ,env,s,hs,he,ho⟩=>step hs he ho λ v s1 ρ1 H1 x _ u1 aT cz aN az=>by
  obtain⟨p,e1,cZ⟩:=az.ar
  obtain⟨w,e2,jJ⟩:=cZ.ar
  obtain⟨i,fs⟩:=p
  obtain⟨rfl,e3⟩:=pU e1
  obtain⟨a,dx,ks,rfl,_,h1,h2⟩:=aT.Bl e3 aN
  obtain⟨y,e4,k⟩:=h2.get e2
  exact⟨a,T.cl c,dx,ks,y,rfl,h1,hK ▸ cl,hK ▸ na,e4,jJ.aS aT k⟩
def gW (c:Nat)(f:Str)(mo mv:Ev):Ms:=λ env s=>(mv env s).dO λ y s1=>(mo env s1).dO λ x s2=>match mE c x s2 with
 | some p=>if p.2.length < 1000 then .nx env (s2.set p.1 (.ins c (qP f y p.2))) else .bad
 | none=>.bad
theorem HJ {c:Nat}{f:Str}{o value:Expr}{pos':Pos}{mo mv:Ev}(cl:vd T.K (T.cl c)) (na:iR T.K (T.cl c) f) (ho:PE X o (tE T XE mo)) (hv:PE X value (tE T XE mv)) (hK:X.K=T.K:=by rfl)(hs:swapsWith value (some (.Attribute o f pos')) pos.line X.env=pure false:=by rfl) :
  PS X (.Assign [.Attribute o f pos'] value pos) (tS T XE (gW c f mo mv)):=
 PS.imp (G6 ho hv hs) λ D σ H ⟨ρ,env,s,sr,er,h⟩=>fu sr er h λ y s1 ρ1 H1 y' _ u1 aT cz aN h1=>fu aT cz h1 λ x s2 ρ2 H2 x' _ u2 fD lS iE h2=>by
  have aN:VR T ρ2 H2 y y':=VR.up u2 aN
  cases e:mE c x s2 with
  | none=>simp only[e]at h2;exact h2.elim
  | some p=>
   simp only[e]at h2
   obtain⟨i,fs⟩:=p
   obtain⟨rfl,e3⟩:=pU e
   obtain⟨a,dx,ks,rfl,ea,h3,h4⟩:=fD.Bl e3 iE
   by_cases hl:fs.length < 1000
   ·rw[if_pos hl]at h2
    have up:Up ρ2 H2 ρ2 (upd H2 a (.ins (T.cl c) dx (jf f y' ks))):=fD.qH ea h3 (λ _ z=>nomatch z) (λ _ _ z=>nomatch z)
    refine⟨a,T.cl c,dx,ks,rfl,h3,hK ▸ cl,hK ▸ na,by rw[<-h4.length];exact hl,h2 ρ2 _ σ up (fD.set ea up ?_) (lS.up up)⟩
    have k:=(h4.put (f:=f) aN).gr up.toGr
    exact⟨dx,_,aw ..,k.1,k.2⟩
   ·rw[if_neg hl]at h2
    exact h2.elim
def aI (c:Nat)(m:Str)(n:Nat)(F:List AV->S->R AV)(mo:Ev)(r:eG):Ev:=λ env s=>(mo env s).bind λ x s1=>need (mE c x s1) λ p=>if p.2.lookup m=none then (r env s1).bind λ vs s2=>if vs.length=n then F (x :: vs) s2 else .bad else .bad
structure ja (P:Program)(w:World)(T:Tx)(mg:Str->Option Value)(base:Heap)(c:Nat)(m:Str)(n k:Nat)(Fn:List AV->S->R AV):Prop where
 ex:∃ f fd ps,gy P w T.K mg base (nF P w) k f fd ps (yM T (n+1) Fn)/\Binds T.K fd ps []/\Meth T.K (T.cl c) m f
theorem wR {E:XK}{c n:Nat}{m:Str}{F:List AV->S->R AV}{mo:Ev}{r:eG}{σ:St}{H:Hp}{Q:VK}(k:∀ c ρ s H,XE c ρ s H->kZ T E c ρ s H)(h:tE T XE (aI c m n F mo r) σ H Q):zr (T.cl c) m (yM T (n+1) F) [] E (tE T XE mo) (tP T XE r) σ H Q:=by
 obtain⟨ρ,env,s,hs,he,ho⟩:=h
 refine step hs he ho λ x s1 ρ1 H1 x' _ u1 aT cz aN az=>?_
 obtain⟨p,e1,cZ⟩:=az.ar
 obtain⟨LH,jJ⟩:=cZ.a9
 clear az cZ
 obtain⟨i,fs⟩:=p
 obtain⟨rfl,e3⟩:=pU e1
 have aN:VR T ρ1 H1 (.ref i) x':=aN
 obtain⟨a,dx,ks,rfl,ea,h3,h4⟩:=aT.Bl e3 aN
 refine⟨a,dx,ks,rfl,h3,h4.aC LH,?_⟩
 refine step aT cz jJ λ vs s2 ρ2 H2 xs _ u2 fD lS iE Ck=>?_
 obtain⟨hl,Sl⟩:=Ck.a9
 have iE:aO T ρ2 H2 vs xs:=iE
 rw[List.append_nil]
 exact⟨by simp[<-iE.length,hl],ρ2,s2,_,fD,.cons (aN.up u2) iE,Sl.xe k⟩
theorem Ef {pl:Sem Bool}{c n k:Nat}{m:Str}{Fn:List AV->S->R AV}{o e:Expr}{es:List Expr}{apos:Pos}{mo:Ev}{r:eG}(cl:vd T.K (T.cl c)) (h:ja X.prog X.w T X.mg X.base c m n k Fn)(hr:df k X.A)(ho:PE X o (tE T XE mo)) (ha:PA X (e :: es) (tP T XE r)) (ls:Ls T X XE)(hK:X.K=T.K:=by rfl)
  (vW:starEach (e :: es) X.env=(false,eval e X.env) :: starEach es X.env:=by rfl) (fj:(backTo pos (starEach es X.env)).any (·.1)=false:=by rfl)
  (ht:eval (.Call (.Attribute o m apos) (e :: es) [] pos) X.env=(do
   let ov <-eval o X.env
   standAt apos.atName
   let (f,first) <-holding [ov] (getMethod ov m pl)
   callWith pos f first (backTo pos (starEach (e :: es) X.env)) (backToKw pos (keywordEach [] X.env))):=by rfl) :
  PE X (.Call (.Attribute o m apos) (e :: es) [] pos) (tE T XE (aI c m n Fn mo r)):=by
 obtain⟨f,fd,ps,G,hb,hm⟩:=h.ex
 obtain⟨E,l,hE⟩:=ls.ex
 exact PE.imp (DA (E:=E) (pl:=pl) ho (hK ▸ cl) (hK ▸ hm) (by rw[hK];exact G) hr (by rw[hK];exact hb) .nil l.passes ha vW fj ht) λ _ _ _ h=>wR hE h
theorem A2 {pl:Sem Bool}{c k:Nat}{m:Str}{Fn:List AV->S->R AV}{o:Expr}{apos:Pos}{mo:Ev}(cl:vd T.K (T.cl c)) (h:ja X.prog X.w T X.mg X.base c m 0 k Fn)(hr:df k X.A)(ho:PE X o (tE T XE mo)) (ls:Ls T X XE)(hK:X.K=T.K:=by rfl)
  (ht:eval (.Call (.Attribute o m apos) [] [] pos) X.env=(do
   let ov <-eval o X.env
   standAt apos.atName
   let (f,first) <-holding [ov] (getMethod ov m pl)
   callWith pos f first (backTo pos (starEach [] X.env)) (backToKw pos (keywordEach [] X.env))):=by rfl) :
  PE X (.Call (.Attribute o m apos) [] [] pos) (tE T XE (aI c m 0 Fn mo ae)):=by
 obtain⟨f,fd,ps,G,hb,hm⟩:=h.ex
 obtain⟨E,l,hE⟩:=ls.ex
 refine PE.imp (Ad (E:=E) (pl:=pl) ho (hK ▸ cl) (hK ▸ hm) (by rw[hK];exact G) hr (by rw[hK];exact hb) .nil l.passes ht) λ σ H Q h=>?_
 obtain⟨ρ,env,s,hs,he,ho⟩:=wR hE h
 refine⟨ρ,env,s,hs,he,ho.imp λ x H1 ⟨a,dx,fs,e1,e2,e3,ρ1,S1,s1,k1,k2,k3⟩=>⟨a,dx,fs,e1,e2,e3,?_⟩⟩
 exact k3 ρ1 H1 [] .refl k1 (aO.nil (T:=T) (ρ:=ρ1) (H:=H1))
def cF (c:Nat)(F:List AV->S->R AV):Ev:=λ _ s=>(F [.ref s.length] (s++[.ins c []])).bind λ v s2=>match v with
 | .aC=>.ok (.ref s.length) s2
 | _=>.bad
structure M6 (P:Program)(w:World)(T:Tx)(mg:Str->Option Value)(base:Heap)(c:Nat)(nm:Str)(k:Nat)(Fn:List AV->S->R AV):Prop where
 ex:∃ f fd ps,gy P w T.K mg base (nF P w) k f fd ps (yM T 1 Fn)/\Binds T.K fd ps []/\Mk T.K (T.cl c) f/\mg nm=some (.ref (T.cl c))
theorem A4 {c k:Nat}{Fn:List AV->S->R AV}{x:Str}{p:Pos}(h:M6 X.prog X.w T X.mg X.base c x k Fn)(hr:df (k+1) X.A) (ls:Ls T X XE)(hK:X.K=T.K:=by rfl)(hg:Gl X x:=by rfl)(jn:(x == ("__debug__":Str))=false:=by decide):PE X (.Call (.Name x p) [] [] pos) (tE T XE (cF c Fn)):=by
 obtain⟨f,fd,ps,G,hb,M,hm⟩:=h.ex
 obtain⟨E,l,hE⟩:=ls.ex
 refine PE.imp (Ae (E:=E) (hK ▸ M) (by rw[hK];exact G) hr hg hm (by rw[hK];exact hb) .nil l.passes jn) λ σ H Q ⟨ρ,env,s,hs,he,ho⟩=>?_
 intro a dx ha hd EO
 have JE:upd H dx (.own a) a=none:=by rw[ah (Ne.symm EO)];exact ha
 have u1:Up ρ H ρ (upd (upd H dx (.own a)) a (.ins (T.cl c) dx [])):=(hs.eK hd).trans ((hs.new hd).eK JE)
 have u2:Up ρ H (ρ++[a]) (upd (upd H dx (.own a)) a (.ins (T.cl c) dx [])):=u1.add ha
 have fD:SR T (ρ++[a]) (s++[.ins c []]) (upd (upd H dx (.own a)) a (.ins (T.cl c) dx [])):=((hs.new hd).new JE).add ((hs.new hd).out JE) ⟨dx,[],aw ..,rfl,.nil⟩
 have iE:VR T (ρ++[a]) (upd (upd H dx (.own a)) a (.ins (T.cl c) dx [])) (.ref s.length) (.ref a):=lu (by rw[List.getElem?_append_right (by rw[hs.len];omega),hs.len];simp)
 refine⟨rfl,ρ++[a],s++[.ins c []],[.ref s.length],fD,.one iE,?_⟩
 have ho:=Out.up u2 ho
 unfold cF at ho
 cases e:Fn [.ref s.length] (s++[.ins c []]) with
 | bad=>rw[e]at ho;exact ho.elim
 | ex c' s3=>rw[e]at ho;exact λ ρ' H' u sr=>hE _ _ _ _ (ho ρ' H' u sr)
 | ok v s3=>
  rw[e]at ho
  intro ρ' H' x' u sr vr
  rw[ay]at ho
  have vr:VR T ρ' H' v x':=vr
  cases v with
  | aC=>exact⟨vr.gH,ho ρ' H' (.ref a) u sr (iE.up u)⟩
  | _=>exact ho.elim
end
end Mm
namespace Ro
open PySem L2 Mm
structure fC (T:Tx)(c:Nat)(m qual:Str)(st:Stmt):Prop where
 ex:∃ f fd,Cc T.K m qual st f fd/\Meth T.K (T.cl c) m f
structure M8 (T:Tx)(mg:Str->Option Value)(c:Nat)(nm qual:Str)(st:Stmt):Prop where
 ex:∃ f fd,Cc T.K "__init__" qual st f fd/\Mk T.K (T.cl c) f/\mg nm=some (.ref (T.cl c))
structure Bk (T:Tx)(c:Nat)(fs:List Str):Prop where
 cl:vd T.K (T.cl c)
 na:∀ f∈fs,iR T.K (T.cl c) f
section
variable {P:Program}{w:World}{T:Tx}{mg:Str->Option Value}{base:Heap}
theorem c_ {c:Nat}{m qual:Str}{st:Stmt}{k n:Nat}{body:Ms}(N:List Str)(D:fC T c m qual st)(S:iD N (N.take (n+1)) (ax st))
  (hb:∀ (kV doc pm:Value) (an:Option Addr) (dG ct:Value) (us:List Value),us.length=(N.take (n+1)).length->bindArgs (PySem.W.fnOf m qual (cS st) (bK st) (ax st) .none kV doc pm an dG ct) ⟨us,[]⟩=pure ((N.take (n+1)).zip us)) (hn:(N.take (n+1)).length=n+1)
  (h:∀ (f:Addr) (dG:Value) (A:Around) (outer:List Env) (s:Shared) (H:Hp) (E:XK),df k (A.deeper (PyProof.Rows.envOfC qual (ax st) s.heap.objs.size f dG))->N.Nodup->Ls T (jG (nF P w) P w T.K mg base N qual (ax st) f dG A outer s H E) (kZ T E)->kI (jG (nF P w) P w T.K mg base N qual (ax st) f dG A outer s H E) (bK st) (tS T (kZ T E) body)) :
  ja P w T mg base c m n (k+1) (eL N.length body):=by
 obtain⟨f,fd,F,M⟩:=D.ex
 have:=sT F S λ dG A outer s H E hr=>h f dG A outer s H E hr S.nd uy
 rw[hn]at this
 exact⟨f,fd,_,this,F.binds hb,M⟩
theorem Jc {c:Nat}{nm qual:Str}{st:Stmt}{k:Nat}{body:Ms}(N:List Str)(D:M8 T mg c nm qual st)(S:iD N (N.take 1) (ax st))
  (hb:∀ (kV doc pm:Value) (an:Option Addr) (dG ct:Value) (us:List Value),us.length=(N.take 1).length->bindArgs (PySem.W.fnOf "__init__" qual (cS st) (bK st) (ax st) .none kV doc pm an dG ct) ⟨us,[]⟩=pure ((N.take 1).zip us)) (hn:(N.take 1).length=1)
  (h:∀ (f:Addr) (dG:Value) (A:Around) (outer:List Env) (s:Shared) (H:Hp) (E:XK),df k (A.deeper (PyProof.Rows.envOfC qual (ax st) s.heap.objs.size f dG))->N.Nodup->Ls T (jG (nF P w) P w T.K mg base N qual (ax st) f dG A outer s H E) (kZ T E)->kI (jG (nF P w) P w T.K mg base N qual (ax st) f dG A outer s H E) (bK st) (tS T (kZ T E) body)) :
  M6 P w T mg base c nm (k+1) (eL N.length body):=by
 obtain⟨f,fd,F,M,hm⟩:=D.ex
 have:=sT F S λ dG A outer s H E hr=>h f dG A outer s H E hr S.nd uy
 rw[hn]at this
 exact⟨f,fd,_,this,F.binds hb,M,hm⟩
end
end Ro
namespace Mm
open PySem L2
section
variable {T:Tx}{XE:gJ}{X:Cx}{pos:Pos}
def tZ:List AV->Option (List Str)
 | []=>some []
 | .str x :: r=>(tZ r).map (x :: ·)
 | _=>none
theorem oZ:∀ {l:List AV}{ss:List Str},tZ l=some ss->l=ss.map AV.str
 | [],_,h=>by cases h;rfl
 | .str x :: r,ss,h=>by
  have h:(tZ r).map (x :: ·)=some ss:=h
  cases e:tZ r with
  | none=>rw[e]at h;cases h
  | some q=>rw[e]at h;cases h;rw[List.map_cons,<-oZ e]
 | .aC :: _,_,h=>by cases h
 | .bl _ :: _,_,h=>by cases h
 | .int _ :: _,_,h=>by cases h
 | .tup _ :: _,_,h=>by cases h
 | .ref _ :: _,_,h=>by cases h
 | .sq _ :: _,_,h=>by cases h
def lO (m:Ev):eG:=λ env s=>(m env s).bind λ v s1=>match v with
 | .ref i=>need (ak s1 i) λ l=>need (tZ l) λ ss=>if ss.length < 64 then .ok ((av ss).map .str) s1 else .bad
 | _=>.bad
theorem AS {e:Expr}{p:Pos}{m:Ev}(hm:X.mg "sorted"=none)(h:PE X e (tE T XE m)) (hg:Gl X "sorted":=by rfl)(he:starEach [e] X.env=(false,eval e X.env) :: starEach [] X.env:=by rfl) (fj:(backTo pos (starEach [] X.env)).any (·.1)=false:=by rfl) :
  PE X (.Call (.Name "sorted" p) [e] [] pos) (tL T XE (lO m)):=
 PE.imp (eU qd hg hm PyProof.Rows.boot_sorted (cb h fF he) (by decide) (by decide) he fj) λ σ H Q ⟨ρ,env,s,hs,he,ho⟩=>step hs he ho λ v s1 ρ1 H1 x _ u1 aT cz aN az=>by
  cases v with
  | ref i=>
   obtain⟨l,e1,cZ⟩:=az.ar
   obtain⟨ss,e2,jJ⟩:=cZ.ar
   obtain⟨hl,Ck⟩:=jJ.a9
   obtain⟨a,vs,rfl,ea,h1,k⟩:=aT.fw (aB e1) aN
   rw[oZ e2]at k
   cases k.o8
   refine⟨a,ss,rfl,h1,hl,λ Cj d hd hp hs=>?_⟩
   rw[je hp (gD hs)]
   exact Ck.lst aT hd (aO.map (λ _=>gQ) _)
  | _=>exact az.elim
def Hv (a y:AV)(s:S):R AV:=match a with
 | .ref i=>need (gA s i) λ kvs=>need (fY y) λ k=>.ok ((aV kvs k).getD .aC) s
 | _=>.bad
def qY (d y:Ev):Ev:=λ env s=>(d env s).bind λ a s1=>need (iX "dict" a s1) λ _=>(y env s1).bind λ b s2=>Hv a b s2
theorem Em {o e:Expr}{apos bE:Pos}{m n:Ev}(hu:X.A.units+1 < cLine)(ho:PE X o (tE T XE m)) (he:PE X e (tE T XE n)) (q:M1 X o "get" apos e bE:=by exact⟨rfl,rfl,rfl,rfl⟩):PE X (.Call (.Attribute o "get" apos) [e] [] bE) (tE T XE (qY m n)):=
 PE.imp (Ai hu ho he q) λ σ H Q ⟨ρ,env,s,hs,he,ho⟩=>step hs he ho λ d s1 ρ1 H1 x _ u1 aT cz aN az=>by
  obtain⟨_,e0,az⟩:=az.ar
  obtain⟨a,rfl,hd⟩:=Bj e0 aT aN
  refine⟨a,rfl,hd,step aT cz az λ w s2 ρ2 H2 y _ u2 fD lS iE cZ=>?_⟩
  have aN:VR T ρ2 H2 d (.ref a):=VR.up u2 aN
  cases d with
  | ref i=>
   obtain⟨kvs,e1,jJ⟩:=cZ.ar
   obtain⟨k,e2,Ck⟩:=jJ.ar
   obtain⟨b,ks,eb,ea,h1,q1,q2⟩:=fD.qy (fM e1) aN
   cases eb
   refine⟨gR ks k,by rw[fR e2 iE];exact jA.k h1,?_⟩
   cases ev:aV kvs k with
   | none=>rw[(dY k q1 q2).2 ev];rw[ev]at Ck;exact Ck.aS fD oY
   | some v=>obtain⟨x',ex,kx⟩:=(dY k q1 q2).1 v ev;rw[ex];rw[ev]at Ck;exact Ck.aS fD kx
  | _=>exact cZ.elim
def xW (a:Ev):Src:=λ env s=>(a env s).bind λ v s1=>need (qm false v s1) λ p=>.ok (rD p.1,p.2) s1
theorem D_ {es:List Expr}{kk:Nat}{mV:Pos}{e1:Expr}{p:Pos}{a:Ev}(hK:X.K=T.K)(hm:X.mg "enumerate"=none)(h1:PE X e1 (tE T XE a)) (hg:Gl X "enumerate":=by rfl)
  (hs:starEach [e1] X.env=(false,eval e1 X.env) :: starEach [] X.env:=by rfl) (fj:(backTo pos (starEach [] X.env)).any (·.1)=false:=by rfl) :
  PI X (.Tuple es kk mV) (.Call (.Name "enumerate" p) [e1] [] pos) (tW T XE (xW a)):=
 PI.imp (Dx hg hm h1 hs fj) λ σ H R ⟨ρ,env,s,hs,he,ho⟩=>step hs he ho λ v s1 ρ1 H1 x _ u1 aT cz aN az=>by
  obtain⟨r,e,cZ⟩:=az.ar
  obtain⟨xs,g⟩:=r
  obtain⟨a1,rfl,⟨NS,x1⟩,w1⟩:=pd e aT aN
  have x1:fB T.K H1 a1 NS:=x1
  refine⟨a1,rfl,⟨NS,by rw[hK];exact x1⟩,cZ ρ1 H1 _ .refl aT ⟨λ ρ' s' H' u' jd gk=>?_⟩⟩
  obtain⟨vs,k1,k2⟩:=w1 ρ' s' H' u' jd gk
  have k1:fB T.K H' a1 vs:=k1
  rw[hK]
  have vg:=k2.length
  refine⟨λ j z ez=>?_,⟨vs,k1,?_⟩⟩
  ·have hj:j < xs.length:=by
    have:=(List.getElem?_eq_some_iff.mp ez).1
    simp only[rD,List.length_map,List.length_zip,List.length_range]at this
    omega
   have PX:z=.tup [.int (j:Int),xs[j]]:=by
    have q:(rD xs)[j]? = some (.tup [.int (j:Int),xs[j]]):=by
     simp[rD,List.getElem?_zip_eq_some,hj]
    rw[q]at ez
    exact(Option.some.inj ez).symm
   subst PX
   obtain⟨x3,e3,v3⟩:=k2.get (List.getElem?_eq_getElem hj)
   refine⟨⟨vs,x3,k1,e3⟩,λ q H'' ⟨Tt,y1,eq,hT,eH,hy⟩=>?_⟩
   have f1:=hy vs k1
   rw[e3]at f1
   cases f1
   subst eq eH
   exact⟨jd.eK hT,jd.new hT,jL (hW.of aw) (aO.up (jd.eK hT) (.cons eI (.one v3)))⟩
  ·rw[<-vg]
   simp only[rD,List.length_map,List.length_zip,List.length_range]
   omega
def lP (m:eG):eG:=λ env s=>(m env s).bind λ l s1=>need (tZ l) λ ss=>if ss.length < 64 then .ok ((av ss).map .str) s1 else .bad
theorem AU {e:Expr}{p:Pos}{m:eG}(hm:X.mg "sorted"=none)(h:PE X e (tL T XE m)) (hg:Gl X "sorted":=by rfl)(he:starEach [e] X.env=(false,eval e X.env) :: starEach [] X.env:=by rfl) (fj:(backTo pos (starEach [] X.env)).any (·.1)=false:=by rfl) :
  PE X (.Call (.Name "sorted" p) [e] [] pos) (tL T XE (lP m)):=
 PE.imp (eU qd hg hm PyProof.Rows.boot_sorted (cb h fF he) (by decide) (by decide) he fj) λ σ H Q ⟨ρ,env,s,hs,he,ho⟩=>step hs he ho λ l s1 ρ1 H1 x _ u1 aT cz aN az=>by
  obtain⟨ss,e2,jJ⟩:=az.ar
  obtain⟨hl,Ck⟩:=jJ.a9
  obtain⟨a,vs,rfl,_,_,h1,k⟩:=aN
  rw[oZ e2]at k
  cases k.o8
  refine⟨a,ss,rfl,h1,hl,λ Cj d hd hp hs=>?_⟩
  rw[je hp (gD hs)]
  exact Ck.lst aT hd (aO.map (λ _=>gQ) _)
end
end Mm
namespace L2
open PySem PySem.Spec PyProof.Rows Mm
theorem vo {H H':Hp}{q:Str}{ps:Array Value}{pos:Pos}{c:Addr}{oc:Obj}{u:HO}{vs:Array Value}{t:Tok}(h:rM H q ps)(k:∀ b o u,H b=some (.ll o u)->H' b=some (.ll o u))
  (hc:H' c=some (.ll oc u)) (hd:oc.data=.fields vs) (hv:vs[1]? = some (.str q t)):rM H' q (ps++#[rawInt pos.line,rawInt pos.col,.ref c]):=by
 have e:(ps++#[rawInt pos.line,rawInt pos.col,.ref c]).toList=ps.toList++[rawInt pos.line,rawInt pos.col,.ref c]:=by simp
 refine⟨by rw[e];exact TriplesOk_snoc _ _ _ _ h.1,λ p cv z=>?_⟩
 rw[e]at z
 have key:∀ l:List Value,TriplesOk l->codeAmong p (l++[rawInt pos.line,rawInt pos.col,.ref c])=some cv->codeAmong p l=some cv∨cv=.ref c:=by
  intro l hl
  fun_induction TriplesOk l with
  | case1=>
   intro z
   have z:(if (((pos.line:Int) == p.line) && ((pos.col:Int) == p.col))=true then some (Value.ref c) else none)=some cv:=z
   split at z
   ·cases z;exact .inr rfl
   ·cases z
  | case2 a b c' d e' r ih=>
   intro z
   simp only[List.cons_append,codeAmong]at z ⊢
   split at z
   ·rename_i q;rw[if_pos q];exact .inl z
   ·rename_i q;rw[if_neg q];exact ih hl z
  | case3=>exact hl.elim
 rcases key _ h.1 z with z|rfl
 ·obtain⟨c1,o1,u1,v1,t1,k1,k2,k3⟩:=h.2 p cv z
  exact⟨c1,o1,u1,v1,t1,k1,k _ _ _ k2,k3⟩
 ·exact⟨c,oc,u,vs,t,rfl,hc,hd,hv⟩
section
variable {X:Cx}{pos:Pos}
structure Cb (H H':Hp)(P:Addr)(q:Str):Prop where
 keep:∀ b o,H b=some o->b≠P->H' b=some o
 live:∀ b,H' b=none->H b=none
 tab:∃ ps,H' P=some (.oA ps)/\rM H' q ps
def N4 (P:Addr)(q:Str):St->Hp->(Addr->Hp->Prop)->Prop:=λ _ H Q=>(∃ ps,H P=some (.oA ps)/\rM H q ps)/\∀ H' f,Cb H H' P q->H' f=none->Q f H'
theorem Iw {params:Arguments}{body:Expr}{scope:Scope}{c P:Addr}{q:Str}{lp:Pos}{pins:List (Addr × Obj)}{s:Shared}{σ:St}{H:Hp}{Q:Addr->Hp->Prop}
  (rj:X.env.code=.ref c) (hC:PySem.W.codeHdIn X.K c P=true) (hq:X.env.qual++"<lambda>"=q) (JF:closureFor scope X.env=pure []) (Bt:defaultsOf params X.env=([],[]))
  (I:Inv X pins σ H s) (h:N4 P q σ H Q) :
  wpAny (model X.prog X.w) X.A (eval (.Lambda params body scope lp) X.env) (λ v s'=>∃ f H',v=.ref f/\Inv X pins σ H' s'/\f+1=s'.heap.objs.size/\(∃ o,s'.heap.get? f=some o)/\X.base.get? f=none/\f≠X.env.locals/\Q f H') X.xe s:=by
 obtain⟨⟨ps,hP,hT⟩,hQ⟩:=h
 have LY:s.heap.get? P=some (PySem.W.tabObj ps):=I.aX P _ hP
 have Pp:s.heap.Ns mainGlobals X.mg:=I.mod.glob.keeps I.bk
 obtain⟨bm,ob,b1,b2,b3,b4,b5,b6⟩:=I.mod.bmain
 have hgP:mainGlobals≠P:=λ z=>by
  obtain⟨o,es,ep,e,hd,_⟩:=Pp
  rw[z,LY]at e;cases e;cases hd
 have hbP:bm≠P:=λ z=>by
  have e:=I.bk _ _ b3
  rw[z,LY]at e;cases e;cases b4
 have hbG:bm≠mainGlobals:=λ z=>by
  obtain⟨o,es,ep,e,hd,_⟩:=I.mod.glob
  rw[z,e]at b3;cases b3;rw[hd]at b6;cases b6
 have hB:s.heap.BuiltinsAt X.mg P:=⟨bm,ob,b1,b2,hbG,hbP,I.bk _ _ b3,b4,b5,b6⟩
 have C:PySem.W.CodeHd s.heap c P:=PySem.W.codeHd_of_K I.jl hC
 have hL:=I.lt
 have Q1:X.base.objs.size<=s.heap.objs.size:=Nat.le_trans I.ok.xF I.sz
 refine PySem.W.kla_eval Bt ?_
 cases hf:codeAmong lp ps.toList with
 | some cv=>
  refine PySem.W.kla_makeFunctionHit (mg:=X.mg) JF I.ok.glob Pp rj C LY hT.1 hf hB λ P1 h' tk hk hsz=>?_
  have IQ:∀ b u,s.heap.get? b=some u->(h'.push (PySem.W.kla_obj "<lambda>" (X.env.qual++"<lambda>") params body scope [] ((X.mg "__name__").getD .none) 0 P1)).get? b=some u:=λ b u e=>Heap.get?_push_of_some _ (hk b u e)
  refine⟨h'.objs.size,H,rfl,I.kept λ b u e=>Heap.get?_push_of_some _ (hk b u e),by simp[Heap.size_push],⟨_,Heap.get?_push_size _ rfl⟩,Heap.get?_none_of_le (Nat.le_trans Q1 hsz),Nat.ne_of_gt (Nat.lt_of_lt_of_le hL hsz),hQ H _ ⟨λ _ _ e _=>e,λ _ e=>e,ps,hP,hT⟩ (I.aX.fresh hsz)⟩
 | none=>
  refine PySem.W.kla_makeFunction (mg:=X.mg) JF I.ok.glob Pp rj C LY hT.1 hf hgP hB λ c' P1 h' tk hx LI xb Pc QO=>?_
  obtain⟨c₂,oc,vs,t,e2,LD,hd,hv⟩:=Pc
  cases e2
  rw[hq]at hv
  have hsz:s.heap.objs.size<=h'.objs.size:=Nat.le_of_lt (Nat.lt_of_le_of_lt LI xb)
  have nc:H c'=none:=I.aX.fresh LI
  have ncP:c'≠P:=λ z=>by rw[z,hP]at nc;cases nc
  let H2:Hp:=upd (upd H c' (.ll oc (.own c'))) P (.oA (ps++#[rawInt lp.line,rawInt lp.col,.ref c']))
  have k2:∀ b o,H b=some o->b≠P->H2 b=some o:=λ b o e n=>by
   show upd _ _ _ b=_
   rw[ah n,ah (aJ e nc)];exact e
  have nP:∀ b o,H b=some o->o≠.oA ps->b≠P:=λ b o e n z=>by subst z;rw[hP]at e;exact n (Option.some.inj e).symm
  have keepO:∀ b o,s.heap.get? b=some o->b≠P->∀ u:Obj,(h'.push u).get? b=some o:=λ b o e n u=>Heap.get?_push_of_some _ (hx b o n e)
  have free:∀ b o,s.heap.get? b=some o->H b=none->H2 b=none:=λ b o e n=>by
   show upd _ _ _ b=_
   rw[ah (λ z=>by rw[z,hP]at n;cases n),ah (λ z=>by rw[z]at e;exact absurd (Heap.lt_size e) (Nat.not_lt.mpr LI))];exact n
  have eP:H2 P=some (.oA (ps++#[rawInt lp.line,rawInt lp.col,.ref c'])):=aw ..
  have ec:H2 c'=some (.ll oc (.own c')):=by show upd _ _ _ c'=_;rw[ah ncP];exact aw ..
  have live:∀ b,H2 b=none->H b=none:=λ b e=>by
   by_cases hb:b=P
   ·subst hb;rw[eP]at e;cases e
   ·by_cases hc:b=c'
    ·rw[hc];exact nc
    ·have e':upd (upd H c' (.ll oc (.own c'))) P (.oA (ps++#[rawInt lp.line,rawInt lp.col,.ref c'])) b=none:=e
     rw[ah hb,ah hc]at e';exact e'
  have ff:∀ b o u,H b=some (.ll o u)->H2 b=some (.ll o u):=λ b o u e=>k2 b _ e (nP b _ e (λ z=>nomatch z))
  have tt:∀ b xs,H b=some (.tup xs)->H2 b=some (.tup xs):=λ b xs e=>k2 b _ e (nP b _ e (λ z=>nomatch z))
  have SA:H2 h'.objs.size=none:=by
   show upd _ _ _ _=_
   rw[ah (λ z=>by have:=Heap.lt_size LY;rw[<-z]at this;exact absurd (Nat.lt_of_lt_of_le this hsz) (Nat.lt_irrefl _)),ah (λ z=>by rw[<-z]at xb;exact absurd xb (Nat.lt_irrefl _))]
   exact I.aX.fresh hsz
  let fo:=PySem.W.kla_obj "<lambda>" (X.env.qual++"<lambda>") params body scope [] ((X.mg "__name__").getD .none) c' P1
  have un:Un X.fs [] H H2 s.heap (h'.push fo):=
   ⟨λ b o e n _ _=>keepO b o e (λ z=>by rw[z,hP]at n;cases n) fo,λ b o e n _ _=>⟨o.slots,keepO b o e (λ z=>by rw[z,hP]at n;cases n) fo⟩,λ b o e n _=>free b o e n,λ b o e _=>by
     by_cases hb:b=P
     ·exact⟨_,by rw[hb];exact Heap.get?_push_of_some _ QO⟩
     ·exact⟨o,keepO b o e hb fo⟩,tt,ff,λ b Tv e=>by
     by_cases hb:b=P
     ·subst hb
      rw[hP]at e;cases e
      exact⟨_,eP⟩
     ·exact⟨#[],by rw[k2 b _ e hb];simp⟩⟩
  have ho:jI X.prog X.w H2 (h'.push fo):=λ b u e=>by
   by_cases hb:b=P
   ·subst hb
    rw[eP]at e;cases e
    exact Heap.get?_push_of_some _ QO
   ·by_cases hc:b=c'
    ·subst hc
     rw[ec]at e;cases e
     exact⟨Heap.get?_push_of_some _ LD,⟨_,Heap.get?_push_of_some _ LD⟩⟩
    ·have e':upd (upd H c' (.ll oc (.own c'))) P (.oA (ps++#[rawInt lp.line,rawInt lp.col,.ref c'])) b=some u:=e
     rw[ah hb,ah hc]at e'
     refine(I.aX b u e').ly (λ d v hd q=>keepO d v q ?_ fo) (λ d q=>k2 d _ q (nP d _ q (λ z=>nomatch z))) tt
     rcases hd with z|z
     ·rw[z];exact hb
     ·exact nP d _ z (λ z=>nomatch z)
  exact⟨h'.objs.size,H2,rfl,I.un un ho,by simp[Heap.size_push],⟨_,Heap.get?_push_size _ rfl⟩,Heap.get?_none_of_le (Nat.le_trans Q1 hsz),Nat.ne_of_gt (Nat.lt_of_lt_of_le hL hsz),hQ H2 _ ⟨k2,live,_,eP,vo hT ff ec hd hv⟩ SA⟩
def Gw (P:Addr)(q:Str)(t:TE):TE:=λ σ H Q=>t σ H λ x H1=>∃ l,x=.ref l/\H1 l=some (.lst [])/\(∃ ps,H1 P=some (.oA ps)/\rM H1 q ps)/\∀ H2 d,Cb H1 H2 P q->H2 d=none->Q (.ref d) (upd H2 d (.lst []))
theorem Ab {e:Expr}{p kp lp:Pos}{params:Arguments}{body:Expr}{scope:Scope}{c P:Addr}{q:Str}{t:TE}(he:PE X e t)(hm:X.mg "sorted"=none)
  (rj:X.env.code=.ref c) (hC:PySem.W.codeHdIn X.K c P=true) (hq:X.env.qual++"<lambda>"=q) (JF:closureFor scope X.env=pure []) (Bt:defaultsOf params X.env=([],[])) (hg:Gl X "sorted":=by rfl)
  (hs:starEach [e] X.env=(false,eval e X.env) :: starEach [] X.env:=by rfl) (Nx:backTo pos (starEach [e] X.env)=(false,eval e X.env) :: backTo pos (starEach [] X.env):=by rfl) (fj:(backTo pos (starEach [e] X.env)).any (·.1)=false:=by rfl) :
  PE X (.Call (.Name "sorted" p) [e] [⟨some (Str.ofString "key"),.Lambda params body scope lp,kp⟩] pos) (Gw P q t):=by
 intro pins s σ H Q I h
 refine wpAny_Call_Name_kw (lK I hg hm PyProof.Rows.boot_sorted ?_ (by decide) (by decide))
 refine PyProof.Rows.callWith_kw ?_ Nx fj
 rw[Nx]
 refine Calls.spliced_cons (bI (he pins s σ H _ I h) λ u s1 ⟨x,H1,I1,r1,l,ex,hl,ht,hQ⟩=>?_)
 subst ex
 cases (show u=Value.ref l from r1)
 refine Calls.spliced_nil ?_
 refine PyProof.Rows.kws_cons ?_
 refine bI (Iw (q:=q) (P:=P) (Q:=λ f H'=>Cb H1 H' P q) rj hC hq JF Bt I1 ⟨ht,λ H' f k _=>k⟩) λ v s2 ⟨f,H2,ev,I2,ef,⟨of,eo⟩,fb,fL,k2⟩=>?_
 subst ev
 refine PyProof.Rows.kws_nil ?_
 have sN:H2 l=some (.lst []):=k2.keep l _ hl λ z=>by
  obtain⟨ps,hp,_⟩:=ht
  rw[z,hp]at hl;cases hl
 obtain⟨m,F⟩:=I2.fr
 obtain⟨_,its,n,rv,el⟩:=I2.aX l _ sN
 cases rv
 refine PyProof.Rows.ksk_sorted (b:=false) (kz:=[]) (vs:=[]) (f:=.ref f) F (AA (g:=X.base) (h:=s2.heap) (L:=X.env.locals)) ⟨_,el,rfl,n,rfl⟩ rfl (by decide) (PyProof.Rows.ksk_s1 _ _) (λ x=>PyProof.Rows.ksk_l1 _ _) (λ x=>PyProof.Rows.ksk_t1 _ _) (λ i v k hv=>by simp at hv) λ D h' tk out c F' N' lt ko=>?_
 have hD:s2.heap.objs.size<=D:=by
  have:=lt (f,of) (nK fL fb eo)
  rw[<-ef];exact this
 have nD:=I2.aX.fresh hD
 have kp:∀ b o,b≠X.env.locals->s2.heap.get? b=some o->h'.get? b=some o:=λ b o n e=>by
  cases z:X.base.get? b with
  | some w=>
   have:=F.keep b w z
   rw[e]at this;cases this
   exact F'.keep b _ z
  | none=>exact(N' (b,o) (.tail _ (nK n z e))).1
 have IK:out=#[]:=by
  obtain⟨ps,hp,ho,_⟩:=ko
  have:ps=[]:=by simpa using hp
  rw[this]at ho
  exact Array.toList_inj.mp (ho.trans rfl)
 subst IK
 have eD:=(N' (D,PyProof.Rows.seqObj "list" #[] c) (.head _)).1
 have tn:∀ b u,H2 b=some u->b≠X.env.locals:=λ b u e z=>by rw[z,I2.free]at e;cases e
 refine⟨.ref D,upd H2 D (.lst []),?_,rfl,hQ H2 D k2 nD⟩
 refine I2.step (g':=s2.gens) (d':=s2.drawn) (ch:=[]) (λ _ z=>nomatch z) (λ b o n _ _ e _=>kp b o n e) (λ b o n _ _ e _=>⟨o.slots,kp b o n e⟩) (λ b o _ e z=>?_) (λ b o _ e=>?_) (λ b xs e=>by rw[ah (aJ e nD)];exact e) (λ b o w e=>by rw[ah (aJ e nD)];exact e) (λ b ps e=>⟨#[],by rw[ah (aJ e nD),e];simp⟩) (λ m' hm=>?_) (λ b w e=>?_) I2.bare
 ·rw[ah (λ y=>by rw[y]at e;exact absurd (Heap.lt_size e) (Nat.not_lt.mpr hD))];exact z
 ·by_cases hb:b=X.env.locals
  ·obtain⟨o2,_,_,e2,_⟩:=F'.ns
   exact⟨o2,by rw[hb];exact e2⟩
  ·exact⟨o,kp b o hb e⟩
 ·have em:m'=m:=by
   funext y
   exact hm.agree F.ns y
  rw[em];exact F'.ns
 ·by_cases hb:b=D
  ·subst hb
   rw[aw]at e;cases e
   exact⟨Nat.zero_le _,[],c,.nil,eD⟩
  ·rw[ah hb]at e
   refine(I2.aX b w e).ly (λ d v hd z=>kp d v ?_ z) (λ d z=>by rw[ah (aJ z nD)];exact z) (λ d xs z=>by rw[ah (aJ z nD)];exact z)
   rcases hd with y|y
   ·rw[y];exact tn b w e
   ·exact tn d _ y
end
end L2
namespace L2
open PySem PySem.Spec PyProof.Rows
def xK (ts:List Addr)(H:Hp):Prop:=(∀ P∈ts,H P=some (.oA #[]))/\∀ b,b∉ts->H b=none∨∃ o xs,H b=some (.ll o (.lst xs))
theorem ym {ts:List Addr}{P:Program}{w:World}{K:PySem.W.Frag}{mg mb:Str->Option Value}{CX:yR}{k:Nat}{fa a:Addr}{fd:FuncData}{x:Str}{sp:Sp}{s₁:Shared}{vs:List Value}{ns:List Int}
  (KX:K.In s₁.heap) (hT:∀ q∈ts,s₁.heap.get? q=some (PySem.W.tabObj #[])) (LX:∀ q∈ts,isCodeTable s₁.heap q) (LW:∀ q∈ts,K.lookup q=none)
  (Nt:s₁.heap.Ns mainGlobals mg) (hb:s₁.heap.Ns builtinsNs mb) (SG:∀ x:Str,x≠"__name__"->mb x=bootBuiltins x) (Pk:s₁.heap.NoLimit) (SD:s₁.heap.NoDigits)
  (SF:∃ bm ob,mg "__builtins__"=some (.ref bm)/\bm≠builtinsNs/\s₁.heap.get? bm=some ob/\ob.cls=.type "module"/\ob.dict=some builtinsNs/\ob.data=.plain) (hg:s₁.gens=#[])
  (ha:s₁.heap.get? a=some { cls:=.type "list",data:=.seq vs.toArray }) (hi:IntsAre vs ns) (hl:ns.length<=sizeLine) (hr:df k callerA)
  (F:∀ base:Heap,K.In base->base.Ns mainGlobals mg->gy P w K mg base CX k fa fd [x] sp) (LR:∀ (s:Shared) (u:Value),BindsTo s fd ⟨[u],[]⟩ [(x,u)])
  (Jz:∀ H:Hp,xK ts H->fB K H a (ns.map V.int)->sp [.ref a] H (λ v _=>v=.bl true) λ _ _ _=>False)
  (PM:∀ H e s',CX [] H s₁ (λ _ _ _=>False) e s'->False) :
  codeAny (model P w) callerA (.call (.ref fa) ⟨[.ref a],[]⟩) (λ r s'=>r=.ok (.ret (.bool true))/\OldK s₁.heap s'.heap/\s'.os=s₁.os/\AllBare s'.gens) s₁:=by
 have rv:=qG hi
 have lenV:=hi.length
 have nat:a∉ts:=λ z=>by
  have e:=hT a z
  rw[ha]at e;cases e
 have core:∀ H:Hp,xK ts H->fB K H a (ns.map V.int)->jI P w H s₁.heap->(∀ b,H b≠none->b=a∨b∈ts)->(H a≠none->K.lookup a=none)->
   codeAny (model P w) callerA (.call (.ref fa) ⟨[.ref a],[]⟩) (λ r s'=>r=.ok (.ret (.bool true))/\OldK s₁.heap s'.heap/\s'.os=s₁.os/\AllBare s'.gens) s₁:=by
  intro H hO hS aX hA hK
  have base_of:∀ {b:Addr}{o:Obj},s₁.heap.get? b=some o->H b=none->(sO s₁.heap H).get? b=some o:=λ e n=>Br e n
  have noO:∀ {b:Addr}{o:Obj},s₁.heap.get? b=some o->o≠{ cls:=.type "list",data:=.seq vs.toArray }->o≠PySem.W.tabObj #[]->H b=none:=λ {b o} e n1 n2=>by
   cases q:H b with
   | none=>rfl
   | some u=>
    rcases hA b (by rw[q];simp) with e'|e'
    ·subst e'
     rw[ha]at e
     exact(n1 (Option.some.inj e).symm).elim
    ·rw[hT b e']at e
     exact(n2 (Option.some.inj e).symm).elim
  have nsK:∀ {b:Addr}{m:Str->Option Value},s₁.heap.Ns b m->(sO s₁.heap H).Ns b m:=λ {b m} ⟨o,es,ep,e,d,r⟩=>⟨o,es,ep,base_of e (noO e (λ z=>by rw[z]at d;cases d) λ z=>by rw[z]at d;cases d),d,r⟩
  have Q3:K.In (sO s₁.heap H):=λ b o e=>base_of (KX b o e) (by
   cases q:H b with
   | none=>rfl
   | some u=>
    rcases hA b (by rw[q];simp) with e'|e'
    ·subst e'
     rw[hK (by rw[q];simp)]at e;cases e
    ·rw[LW b e']at e;cases e)
  have hM:Mod K mg (sO s₁.heap H):=⟨Q3,nsK Nt,⟨mb,nsK hb,SG⟩,let ⟨mc,h1,h2⟩:=Pk;⟨mc,nsK h1,h2⟩,let ⟨mc,h1,h2⟩:=SD;⟨mc,nsK h1,h2⟩,
   let ⟨bm,ob,b1,b2,b3,b4,b5,b6⟩:=SF;⟨bm,ob,b1,b2,base_of b3 (noO b3 (λ z=>by rw[z]at b6;cases b6) λ z=>by rw[z]at b6;cases b6),b4,b5,b6⟩⟩
  have e0:wq P w K mg (sO s₁.heap H) callerA [] s₁ H:=⟨rfl,hM,λ b o e=>DQ e,Nat.le_of_eq (yw _ _),trivial,λ b hb=>absurd (show b∈([]:List Addr) from hb) (by simp),aX,.of_eq hg⟩
  refine codeAny_mono ((F _ Q3 (nsK Nt)).run callerA [] s₁ H ⟨[.ref a],[]⟩ [.ref a] [.ref a] _ _ hr e0 (LR s₁ (.ref a)) (.cons rfl .nil) (Jz H hO hS)) λ r s' h=>?_
  cases r with
  | error e=>exact(PM H e s' h).elim
  | ok fl=>
   cases fl with
   | next=>exact False.elim h
   | brk=>exact False.elim h
   | cont=>exact False.elim h
   | ret u=>
    obtain⟨v,H',os,bare,un,LC,r',q⟩:=h
    have q':v=.bl true:=q
    subst q'
    obtain rfl:u=Value.bool true:=r'
    have old:∀ b o,s₁.heap.get? b=some o->s'.heap.get? b=some o∨(b∈ts/\o=PySem.W.tabObj #[]/\∃ more,s'.heap.get? b=some (PySem.W.tabObj more)):=λ b o e=>by
     by_cases hb:b∈ts
     ·refine .inr ⟨hb,?_,?_⟩
      ·rw[hT b hb]at e;exact(Option.some.inj e).symm
      ·obtain⟨more,z⟩:=un.o7 b _ (hO.1 b hb)
       exact⟨_,LC b _ z⟩
     ·rcases hO.2 b hb with z|⟨ob,xs,z⟩
      ·exact .inl (un.keep b o e z (by intro z;exact absurd (show b∈([]:List Addr) from z) (by simp)) (by simp))
      ·have z2:=un.iJ b ob _ z
       obtain⟨e1,_⟩:=aX b _ z
       obtain⟨e2,_⟩:=LC b _ z2
       rw[e]at e1;cases e1
       exact .inl e2
    refine⟨rfl,⟨λ b o e=>?_,λ b o e=>?_⟩,os,bare⟩
    ·rcases old b o e with z|⟨hb,rfl,more,z⟩
     ·exact .inl z
     ·exact .inr (.inl ⟨LX b hb,rfl,#[],more,rfl,by rw[z];simp⟩)
    ·rcases old b o e with z|⟨_,_,more,z⟩
     ·exact⟨_,z⟩
     ·exact⟨_,z⟩
 have tok:∀ H:Hp,(∀ P∈ts,H P=some (.oA #[]))->∀ b∈ts,∀ u,H b=some u->bP P w H s₁.heap b u:=λ H h b hb u e=>by
  rw[h b hb]at e;cases e
  exact hT b hb
 cases hk:K.lookup a with
 | some o=>
  have e:=KX a o hk
  rw[ha]at e
  cases e
  refine core (λ b=>if b∈ts then some (.oA #[]) else none) ⟨λ q hq=>if_pos hq,λ b hb=>.inl (if_neg hb)⟩ (.inr ⟨_,vs.toArray,_,hk,rfl,rfl,rfl,by rw[List.size_toArray,lenV];exact hl,by simpa using rv⟩) (λ b u z=>?_) (λ b z=>?_) λ z=>absurd (if_neg nat) z
  ·by_cases hb:b∈ts
   ·exact tok _ (λ q hq=>if_pos hq) b hb u z
   ·have z':=(if_neg hb).symm.trans z
    cases z'
  ·by_cases hb:b∈ts
   ·exact .inr hb
   ·exact absurd (if_neg hb) z
 | none=>
  have iA:∀ b,b∉ts->(λ b=>if b∈ts then some (HO.oA #[]) else if b=a then some (HO.ll { cls:=.type "list",data:=.seq vs.toArray } (.lst (ns.map V.int))) else none) b=if b=a then some (HO.ll { cls:=.type "list",data:=.seq vs.toArray } (.lst (ns.map V.int))) else none:=λ b hb=>if_neg hb
  refine core (λ b=>if b∈ts then some (.oA #[]) else if b=a then some (.ll { cls:=.type "list",data:=.seq vs.toArray } (.lst (ns.map V.int))) else none) ⟨λ q hq=>if_pos hq,λ b hn=>?_⟩ (.inl (.inr ⟨{ cls:=.type "list",data:=.seq vs.toArray },(iA a nat).trans (if_pos rfl)⟩)) (λ b u z=>?_) (λ b z=>?_) λ _=>hk
  ·by_cases hb:b=a
   ·exact .inr ⟨_,_,(iA b hn).trans (if_pos hb)⟩
   ·exact .inl ((iA b hn).trans (if_neg hb))
  ·by_cases hn:b∈ts
   ·exact tok _ (λ q hq=>if_pos hq) b hn u z
   ·by_cases hb:b=a
    ·have z':=((iA b hn).trans (if_pos hb)).symm.trans z
     cases z'
     subst hb
     exact⟨ha,by rw[List.length_map];exact hl,vs,_,rv,ha⟩
    ·have z':=((iA b hn).trans (if_neg hb)).symm.trans z
     cases z'
  ·by_cases hn:b∈ts
   ·exact .inr hn
   ·by_cases hb:b=a
    ·exact .inl hb
    ·exact absurd ((iA b hn).trans (if_neg hb)) z
theorem zj {l:PySem.W.OpenLaw}{n k:Nat}{q:Program}{loose:List Str}{XP:(Str->Option Value)->Heap->Prop}{YP:World->Heap->Prop}{d:DefRec}{K:Params->PySem.W.Frag}{CX:World->yR}{sp:World->Sp}{x:Str}(ts:List Addr)
  (hn:l.most=some n) (Cm:n<=sizeLine) (LK:d.params.defaults=[]) (hr:df k callerA)
  (hY:∀ (w:World) (h:Heap),YP w h->(K w.params).In h) (hT:∀ (w:World) (h:Heap),YP w h->∀ q∈ts,h.get? q=some (PySem.W.tabObj #[]))
  (LX:∀ (w:World) (h:Heap),YP w h->∀ q∈ts,isCodeTable h q) (LW:∀ (w:World) (h:Heap),(K w.params).In h->∀ q∈ts,(K w.params).lookup q=none)
  (F:∀ (w:World) (mg:Str->Option Value) (fa:Addr) (h:Heap),(K w.params).In h->h.Ns mainGlobals mg->mg d.name=some (.ref fa)->
   ∃ fd:FuncData,(∀ (s:Shared) (u:Value),BindsTo s fd ⟨[u],[]⟩ [(x,u)])/\
    ∀ base:Heap,(K w.params).In base->base.Ns mainGlobals mg->gy l.prog w (K w.params) mg base (CX w) k fa fd [x] (sp w))
  (Jz:∀ (w:World) (H:Hp) (a:Addr) (ns:List Int),ns.length<=n->xK ts H->fB (K w.params) H a (ns.map V.int)->sp w [.ref a] H (λ v _=>v=.bl true) λ _ _ _=>False)
  (PM:∀ (w:World) (H:Hp) (s:Shared) (e:Value) (s':Shared),CX w [] H s (λ _ _ _=>False) e s'->False) :
  PySem.W.WalkO q loose XP YP l.row.toRowW d [] (λ f vs=>PySem.call f vs):=by
 refine Ri.u7 hn LK λ w gS s₁ mg mb fa o pm cd doc a vs ns G Y ho hd xh LF IP hints hlen hg=>?_
 have KX:=hY w _ Y
 obtain⟨fd,hb,hF⟩:=F w mg fa _ KX G.T.g LF
 exact ym KX (hT w _ Y) (LX w _ Y) (LW w _ KX) G.T.g G.T.b G.T.builtins G.T.nolimit G.T.nodigits G.T.bmain hg IP hints (Nat.le_trans hlen Cm) hr hF hb (λ H hO hS=>Jz w H a ns hlen hO hS) λ H e s'=>PM w H s₁ e s'
end L2
namespace Mm
open PySem L2
def tabAt (i:Nat)(q:Str):AO->Bool
 | .tab j r=>decide (j=i/\r=q)
 | _=>false
theorem xU {i:Nat}{q:Str}{o:AO}(h:tabAt i q o=true):o=.tab i q:=by
 cases o with
 | tab j r=>have h:=of_decide_eq_true h;rw[h.1,h.2]
 | _=>cases h
def pY (i:Nat)(q:Str)(m:Ev):eG:=λ env s=>(m env s).bind λ v s1=>match v with
 | .ref k=>need (ak s1 k) λ l=>if l.isEmpty=true/\s1.any (tabAt i q)=true then .ok [] s1 else .bad
 | _=>.bad
section
variable {T:Tx}{XE:gJ}{X:Cx}{pos:Pos}
theorem AW {e:Expr}{p kp lp:Pos}{params:Arguments}{body:Expr}{scope:Scope}{c i:Nat}{q:Str}{m:Ev}(hm:X.mg "sorted"=none)(rj:X.env.code=.ref c)(hC:PySem.W.codeHdIn T.K c (T.cl i)=true) (h:PE X e (tE T XE m))
  (hK:X.K=T.K:=by rfl) (hq:X.env.qual++"<lambda>"=q:=by rfl) (JF:closureFor scope X.env=pure []:=by rfl) (Bt:defaultsOf params X.env=([],[]):=by rfl) (hg:Gl X "sorted":=by rfl)
  (hs:starEach [e] X.env=(false,eval e X.env) :: starEach [] X.env:=by rfl) (Nx:backTo pos (starEach [e] X.env)=(false,eval e X.env) :: backTo pos (starEach [] X.env):=by rfl) (fj:(backTo pos (starEach [e] X.env)).any (·.1)=false:=by rfl) :
  PE X (.Call (.Name "sorted" p) [e] [⟨some (Str.ofString "key"),.Lambda params body scope lp,kp⟩] pos) (tL T XE (pY i q m)):=
 PE.imp (Ab (P:=T.cl i) (q:=q) h hm rj (by rw[hK];exact hC) hq JF Bt hg hs Nx fj) λ σ H Q ⟨ρ,env,s,hs,he,ho⟩=>step hs he ho λ v s1 ρ1 H1 x _ u1 aT cz aN az=>by
  cases v with
  | ref k=>
   obtain⟨l,e1,cZ⟩:=az.ar
   obtain⟨⟨hl,ht⟩,jJ⟩:=cZ.a9
   obtain⟨a,vs,rfl,ea,h1,kk⟩:=aT.fw (aB e1) aN
   have hl:l=[]:=by simpa using hl
   subst hl
   cases kk.nil_inv
   obtain⟨o,ho,Sj⟩:=List.any_eq_true.mp ht
   cases xU Sj
   obtain⟨j,hj,ej⟩:=List.getElem_of_mem ho
   obtain⟨P,e2,rfl,ps,h2,h3⟩:=aT.obj j _ (by rw[List.getElem?_eq_getElem hj,ej])
   refine⟨a,rfl,h1,⟨ps,h2,h3⟩,λ H2 d k2 hd=>?_⟩
   have nP:∀ b o,H1 b=some o->o≠.oA ps->b≠T.cl i:=λ b o e n z=>by subst z;rw[h2]at e;exact n (Option.some.inj e).symm
   have mP:T.cl i∈ρ1:=List.mem_of_getElem? e2
   have up:Up ρ1 H1 ρ1 H2:=⟨⟨List.prefix_rfl,λ b xs e=>k2.keep b _ e (nP b _ e (λ z=>nomatch z)),λ b o u e=>k2.keep b _ e (nP b _ e (λ z=>nomatch z))⟩,λ b o e n=>⟨k2.keep b o e λ z=>n (z ▸ mP),n⟩,k2.live⟩
   have fD:SR T ρ1 s1 H2:=⟨aT.nd,aT.len,λ i' o' e'=>by
    obtain⟨b,e3,q3⟩:=aT.obj i' o' e'
    by_cases hb:b=T.cl i
    ·subst hb
     have qf:i'=j:=by
      have l1:=(List.getElem?_eq_some_iff.mp e3).1
      have l2:=(List.getElem?_eq_some_iff.mp e2).1
      rw[List.getElem?_eq_getElem l1]at e3
      rw[List.getElem?_eq_getElem l2]at e2
      have e4:=(Option.some.inj e3).trans (Option.some.inj e2).symm
      have pw:=List.pairwise_iff_getElem.mp aT.nd
      rcases Nat.lt_trichotomy i' j with z|z|z
      ·exact(pw _ _ l1 l2 z e4).elim
      ·exact z
      ·exact(pw _ _ l2 l1 z e4.symm).elim
     subst qf
     rw[List.getElem?_eq_getElem hj,ej]at e'
     cases e'
     exact⟨_,e3,rfl,k2.tab⟩
    ·obtain⟨u,eu⟩:=q3.ex
     exact⟨b,e3,q3.up up.toGr ((k2.keep b u eu hb).trans eu.symm)⟩⟩
   exact(Out.up up jJ).lst fD hd .nil
  | _=>exact az.elim
end
end Mm
namespace Ro
open PySem L2 Mm
structure M7 (T:Tx)(mg:Str->Option Value)(x:Str)(st:Stmt)(i:Nat):Prop where
 ex:∃ f fd c,Cc T.K x x st f fd/\mg x=some (.ref f)/\fd.code=.ref c/\PySem.W.codeHdIn T.K c (T.cl i)=true
section
variable {P:Program}{w:World}{T:Tx}{mg:Str->Option Value}{base:Heap}
theorem Jb {x:Str}{st:Stmt}{k n i:Nat}{body:Ms}(N:List Str)(D:M7 T mg x st i)(S:iD N (N.take n) (ax st))
  (hb:∀ (kV doc pm:Value) (an:Option Addr) (dG ct:Value) (us:List Value),us.length=(N.take n).length->bindArgs (PySem.W.fnOf x x (cS st) (bK st) (ax st) .none kV doc pm an dG ct) ⟨us,[]⟩=pure ((N.take n).zip us)) (hn:(N.take n).length=n)
  (h:∀ (f:Addr) (c:Addr) (A:Around) (outer:List Env) (s:Shared) (H:Hp) (E:XK),PySem.W.codeHdIn T.K c (T.cl i)=true->df k (A.deeper (PyProof.Rows.envOfC x (ax st) s.heap.objs.size f (.ref c)))->N.Nodup->Ls T (jG (nF P w) P w T.K mg base N x (ax st) f (.ref c) A outer s H E) (kZ T E)->kI (jG (nF P w) P w T.K mg base N x (ax st) f (.ref c) A outer s H E) (bK st) (tS T (kZ T E) body)) :
  gK P w T mg base x n (k+1) (eL N.length body):=by
 obtain⟨f,fd,c,F,m,ec,hC⟩:=D.ex
 have key:gy P w T.K mg base (nF P w) (k+1) f fd (N.take n) (yM T (N.take n).length (eL N.length body)):=by
  obtain⟨oc,od,kV,doc,pm,an,dG,ct,qp,rfl,lk,xh⟩:=F.ex
  have ec:dG=.ref c:=ec
  subst ec
  refine FZ lk xh S (λ vs H Q E h=>h.1) λ A outer s H vs Q E hr ⟨hl,ρ,qj,args,sr,va,ho⟩=>?_
  refine⟨_,h f c A outer s H E hC hr S.nd uy,ρ,_,qj,sr,uM N va,?_⟩
  unfold eL at ho
  cases e:body (args.map some++List.replicate (N.length - args.length) none) qj with
  | nx e1 s1=>simp only[e]at ho;exact λ ρ2 H2 σ2 u sr er=>ho ρ2 H2 .aC u sr (oY (T:=T) (ρ:=ρ2) (H:=H2))
  | rt v s1=>simp only[e]at ho;exact ho
  | ex c s1=>simp only[e]at ho;exact ho
  | bk v s1=>simp only[e]at ho;exact ho.elim
  | ct v s1=>simp only[e]at ho;exact ho.elim
  | bad=>simp only[e]at ho;exact ho.elim
 rw[hn]at key
 exact⟨f,fd,_,key,F.binds hb,m,F.kp⟩
def spT (K:PySem.W.Frag)(ts:List Addr)(tq:List (Nat × Str)) (fl:List AV->S->R AV):Sp:=λ vs H Q E=>vs.length=1/\∀ cl,(tq.map λ p=>cl p.1)=ts->yM ⟨K,cl⟩ 1 fl vs H Q E
def tabS (tq:List (Nat × Str)):S:=tq.map λ p=>.tab p.1 p.2
theorem CY {K:PySem.W.Frag}{ts:List Addr}{tq:List (Nat × Str)}{H:Hp}{a:Addr}{ns:List Int}{E:XK}{fl:List AV->S->R AV}(nd:ts.Nodup)(hl:(fl [.sq (ns.map AV.int)] (tabS tq)).wp λ v _=>v=.bl true) (hO:xK ts H)(hS:fB K H a (ns.map V.int)):spT K ts tq fl [.ref a] H (λ v _=>v=.bl true) E:=by
 have hF:Ge K H a (ns.map V.int):=by
  rcases hS with h|h
  ·rcases h with h|h
   ·by_cases ht:a∈ts
    ·rw[hO.1 a ht]at h;cases h
    ·rcases hO.2 a ht with z|⟨o,xs,z⟩
     ·rw[z]at h;cases h
     ·rw[z]at h;cases h
   ·exact .inl h
  ·exact .inr h
 refine⟨rfl,λ cl ec=>⟨rfl,ts,tabS tq,[.sq (ns.map AV.int)],⟨nd,by rw[<-ec];simp[tabS],λ i o e=>?_⟩,?_,?_⟩⟩
 ·unfold tabS at e
  rw[List.getElem?_map]at e
  cases q:tq[i]? with
  | none=>rw[q]at e;cases e
  | some p=>
   rw[q]at e
   cases e
   have e2:ts[i]? = some (cl p.1):=by rw[<-ec,List.getElem?_map,q];rfl
   exact⟨_,e2,rfl,#[],hO.1 _ (List.mem_of_getElem? e2),trivial,λ pos cv z=>by cases z⟩
 ·unfold aO
  refine⟨_,_,rfl,?_,by unfold aO;rfl⟩
  unfold VR
  exact⟨a,_,rfl,hF,aO.map (λ i=>eI) ns⟩
 ·obtain⟨v,s',e,rfl⟩:=hl.get
  rw[e]
  intro ρ' H' x _ _ hx
  have hx:VR ⟨K,cl⟩ ρ' H' (.bl true) x:=hx
  unfold VR at hx
  exact hx
theorem E7 {l:PySem.W.OpenLaw}{w:World}{K:PySem.W.Frag}{cl:Nat->Addr}{ts:List Addr}{tq:List (Nat × Str)}{mg:Str->Option Value}{fa:Addr}{st:Stmt}{k:Nat}{fl:List AV->S->R AV}(Pt:mg "law"=some (.ref fa)) (ec:(tq.map λ p=>cl p.1)=ts) (D:Df ⟨K,cl⟩ mg "law" st)
  (hb:∀ (s:Shared) (v kV doc pm:Value) (an:Option Addr) (dG ct:Value),BindsTo s (PySem.W.fnOf "law" "law" (cS st) (bK st) (ax st) .none kV doc pm an dG ct) ⟨[v],[]⟩ [("_law_script",v)])
  (F:∀ (base:Heap) (f:Addr) (fd:FuncData),Cc K "law" "law" st f fd->gy l.prog w K mg base (nF l.prog w) k f fd ["_law_script"] (yM ⟨K,cl⟩ 1 fl)) :
  ∃ fd:FuncData,(∀ (s:Shared) (v:Value),BindsTo s fd ⟨[v],[]⟩ [("_law_script",v)])/\∀ base:Heap,K.In base->base.Ns mainGlobals mg->gy l.prog w K mg base (nF l.prog w) k fa fd ["_law_script"] (spT K ts tq fl):=by
 obtain⟨f,fd,G,m⟩:=D.ex
 cases m.symm.trans Pt
 refine⟨fd,?_,λ base _ _=>(F base _ _ G).imp λ vs H Q E h=>h.2 cl ec⟩
 obtain⟨oc,od,kV,doc,pm,an,dG,ct,qp,rfl,lk,xh⟩:=G.ex
 exact λ s v=>hb s v kV doc pm an dG ct
end
theorem JR {l:PySem.W.OpenLaw}{q:Program}{loose:List Str}{XP:(Str->Option Value)->Heap->Prop}{YP:World->Heap->Prop}{d:DefRec}{K:Params->PySem.W.Frag}(ts:List Addr)(tq:List (Nat × Str)) (fl:List AV->S->R AV)(k:Nat)(nd:ts.Nodup)(hk:df k callerA)(hl:∀ ns:List Int,(fl [.sq (ns.map AV.int)] (tabS tq)).wp λ v _=>v=.bl true) (hn:l.most=some 63)(LK:d.params.defaults=[])
  (hY:∀ (w:World) (h:Heap),YP w h->(K w.params).In h) (hT:∀ (w:World) (h:Heap),YP w h->∀ q∈ts,h.get? q=some (PySem.W.tabObj #[]))
  (LX:∀ (w:World) (h:Heap),(K w.params).In h->∀ q∈ts,∃ c,PySem.W.codeHdIn (K w.params) c q=true) (LW:∀ (w:World) (h:Heap),(K w.params).In h->∀ q∈ts,(K w.params).lookup q=none)
  (F:∀ (w:World) (mg:Str->Option Value) (fa:Addr) (h:Heap),(K w.params).In h->h.Ns mainGlobals mg->mg d.name=some (.ref fa)->
   ∃ fd:FuncData,(∀ (s:Shared) (u:Value),BindsTo s fd ⟨[u],[]⟩ [("_law_script",u)])/\∀ base:Heap,(K w.params).In base->base.Ns mainGlobals mg->gy l.prog w (K w.params) mg base (nF l.prog w) k fa fd ["_law_script"] (spT (K w.params) ts tq fl)) :
  PySem.W.WalkO q loose XP YP l.row.toRowW d [] (λ f vs=>PySem.call f vs):=
 L2.zj ts (n:=63) (x:="_law_script") (CX:=λ w=>nF l.prog w) (sp:=λ w=>spT (K w.params) ts tq fl) hn (by decide) LK hk hY hT (λ w h Y q hq=>by
  obtain⟨c,e⟩:=LX w h (hY w h Y) q hq
  exact((PySem.W.codeHd_of_K (hY w h Y) e).tab (hT w h Y q hq)).isCodeTable) LW F (λ w H a ns _ hO hS=>CY nd (hl ns) hO hS) λ _ _ _ _ _ ⟨_,_,_,_,_,_,_,_,_,_,z⟩=>z
end Ro
namespace Mm
open PySem L2
section
variable {T:Tx}{XE:gJ}{X:Cx}{pos:Pos}
theorem set_dict (hu:X.A.units+1 < cLine):Jr X (λ o i v H Q=>∃ a H',o=.ref a/\wt H a i v H'/\Q H'):=by
 rintro pins s σ H o i v ov iv u Q I ro ri rv ⟨a,H',rfl,g,q⟩
 obtain rfl:ov=Value.ref a:=ro
 exact rE hu I g ri rv λ s4 I4=>⟨H',I4,q⟩
def pX (o i:Ev):Mt:=λ v env s=>(o env s).dO λ a s1=>(i env s1).dO λ b s2=>putD v a b env s2
theorem Ed {o i:Expr}{m n:Ev}(hu:X.A.units+1 < cLine)(ho:PE X o (tE T XE m)) (hi:PE X i (tE T XE n))
  (ha:∀ v,assign (.Subscript o i pos) X.env v=(do
   let ov <-holding [v] (eval o X.env)
   let iv <-holding [v,ov] (eval i X.env)
   standAt pos
   holding [v,ov,iv] (setItem ov iv v)
   release [v,ov,iv] []):=by intro _;rfl):PG X (.Subscript o i pos) (tT T XE (pX m n)):=
 PG.imp (z_ ho hi (set_dict hu) ha) λ x σ H Q ⟨ρ,env,s,v,hs,he,vr,ho⟩=>by
  refine fu hs he ho λ a s1 ρ1 H1 y _ u1 aT cz aN az=>fu aT cz az λ b s2 ρ2 H2 z _ u2 fD lS iE cZ=>?_
  have aN:VR T ρ2 H2 a y:=VR.up u2 aN
  have iE:VR T ρ2 H2 b z:=iE
  have vr:VR T ρ2 H2 v x:=VR.up (u1.trans u2) vr
  unfold putD at cZ
  split at cZ
  ·split at cZ
   ·rename_i i kvs k e1 e2
    obtain⟨hl,jJ⟩:=cZ.a9
    obtain⟨a,ks,rfl,ea,h1,q1,q2⟩:=fD.qy (fM e1) aN
    have JC:kvs.length=ks.length:=by have:=congrArg List.length q1;simpa using this
    refine⟨a,_,rfl,by rw[fR e2 iE];exact wt.k h1 (by rw[<-JC];exact hl),?_⟩
    obtain⟨p1,p2⟩:=sj k vr q1 q2
    have up:Up ρ2 H2 ρ2 (upd H2 a (.dK (putK ks k x))):=fD.qH ea h1 (λ _ z=>nomatch z) (λ _ _ z=>nomatch z)
    exact jJ ρ2 _ σ up (fD.set ea up ⟨_,aw,p1,p2.up up⟩) (lS.up up)
   ·exact cZ.elim
  ·exact cZ.elim
theorem DN {o i:Ev}:kJ (pX o i):=λ v env s=>by
 unfold pX
 cases o env s with
 | bad=>exact .inr (.inr rfl)
 | ex c s1=>exact .inr (.inl ⟨_,_,rfl⟩)
 | ok a s1=>
  simp only[i9]
  cases i env s1 with
  | bad=>exact .inr (.inr rfl)
  | ex c s1=>exact .inr (.inl ⟨_,_,rfl⟩)
  | ok b s2=>
   simp only[i9]
   unfold putD
   split
   ·split
    ·split
     ·exact .inl ⟨_,_,rfl⟩
     ·exact .inr (.inr rfl)
    ·exact .inr (.inr rfl)
   ·exact .inr (.inr rfl)
theorem OH (hu:X.A.units+1 < cLine):iC X (compareOp .In) (qo T XE jX):=by
 intro pins s σ H x y v u Q I rx ry ⟨ρ,a,b,st,sr,va,vb,ho⟩
 cases b with
 | ref i=>
  obtain⟨kvs,e1,cZ⟩:=ho.ar
  obtain⟨k,e2,jJ⟩:=cZ.ar
  obtain⟨p,ks,rfl,ea,h1,q1,q2⟩:=sr.qy (fM e1) vb
  have vk:=fR e2 va
  obtain rfl:u=Value.ref p:=ry
  refine Mg (o:=gR ks k) hu I (by rw[vk];exact jA.k h1) rx λ s' I'=>⟨.bl (gR ks k).isSome,H,I',rfl,?_⟩
  have:(gR ks k).isSome=(aV kvs k).isSome:=by
   cases ev:aV kvs k with
   | none=>rw[(dY k q1 q2).2 ev];rfl
   | some z=>obtain⟨x',ex,_⟩:=(dY k q1 q2).1 z ev;rw[ex];rfl
  rw[this]
  exact jJ.aS sr dW
 | _=>exact ho.elim
def pz (v w:AV)(s:S):R AV:=match w with
 | .ref i=>if (gA s i).isSome=true then jX v (.ref i) s else qq v (.ref i) s
 | _=>.bad
theorem KO (hK:X.K=T.K)(hu:X.A.units+1 < cLine):iC X (compareOp .In) (qo T XE pz):=by
 intro pins s σ H x y v u Q I rx ry ⟨ρ,a,b,st,sr,va,vb,ho⟩
 unfold pz at ho
 split at ho
 ·split at ho
  ·exact OH (T:=T) (XE:=XE) hu pins s σ H x y v u Q I rx ry ⟨ρ,a,_,st,sr,va,vb,ho⟩
  ·exact OG (T:=T) (XE:=XE) hK pins s σ H x y v u Q I rx ry ⟨ρ,a,_,st,sr,va,vb,ho⟩
 ·exact ho.elim
theorem vq {k:List (Option Expr)}{v:List Expr}{p:Pos}{x:Str}{q:Pos}{n:Nat}{env:Env}:swapsWith (.Dict k v p) (some (.Name x q)) n env=pure false:=rfl
theorem DX {i:Nat}{x:Str}{k:List (Option Expr)}{v:List Expr}{p pos':Pos}{l:List (Ev × Ev)}(hN:X.N.Nodup)(he:PE X (.Dict k v p) (tE T XE (jC l))) (hi:X.N[i]? = some x)(hx:Loc X.env.scope x)(hf:X.fn x=true∨X.env.scope.names.lookup x=some .local) :
  PS X (.Assign [.Name x pos'] (.Dict k v p) pos) (tS T XE (bY i (jC l))):=AN hN he hi hx vq hf
end
end Mm
namespace Ro
open PySem L2 Mm
def cu (l t:List Addr)(i:Nat):Addr:=if i < 20 then l.getD i 0 else t.getD (i - 20) 0
theorem KZ {K:PySem.W.Frag}{C:Addr}{nm:Str}{bm:List Value}{lX:Option Value}(x:hV K C nm bm lX)(ga:PySem.W.findIn K (.ref C) "__getattribute__"=some (some (.builtin "BaseException.__getattribute__"))) (gx:PySem.W.findIn K (.ref C) "__getattr__"=some none) (ca:PySem.W.findIn K (.ref C) "__class__"=some (some (.builtin "object.__class__")))
  (cn:PySem.W.specialIn K (.builtin "object.__class__") "__get__"=some (some (.builtin "getset_descriptor.__get__"))) (ct:PySem.W.takesIn K (.builtin "object.__class__")=some true):Fu K C:=by
 have has:∀ {l:List Value},mQ K l->l.contains (.type "BaseException")=true/\l.contains (.type "object")=true:=by
  intro l t
  induction t with
  | base=>exact⟨by decide +kernel,by decide +kernel⟩
  | own _ _ _ _ ih=>rw[List.contains_cons,List.contains_cons,ih.1,ih.2];exact⟨Bool.or_true _,Bool.or_true _⟩
 refine { ga:=ga,gx:=gx,sb:=?_,ca:=ca,cn:=cn,ct:=ct,cm:=?_,cl:=x.FN }
 ·rw[x.mro,List.contains_cons,(has x.tail).1,Bool.or_true]
 ·show PySem.W.subIn K (.ref C) (.type "object")=some true
  rw[x.mro,List.contains_cons,(has x.tail).2,Bool.or_true]
structure tI (K:PySem.W.Frag)(mg:Str->Option Value)(C:Addr)(nm:Str)(bm:List Value)(lX:Option Value):Prop where
 tl:mQ K bm->hV K C nm bm lX/\(lX=none->mQ K (.ref C :: bm))
 is:hV K C nm bm lX->Fu K C
 kp:PySem.W.keepIn K (.ref C)=true
 gl:mg nm=some (.ref C)
theorem lY {K:PySem.W.Frag}{h:Heap}{mg:Str->Option Value}{C N:Addr}{nm q:Str}{bm bs sub:List Value}{sn:List Str}{ab:Bool}{col:Option Bool}{dd nd:Option Addr}{ka kb kc kd ke lX:Option Value}{nc:Value}{es:Array DictEntry}{ep:Nat}{Nh:Array (Option Value)}(X:K.In h)(G:h.Ns mainGlobals mg)
  (a:PySem.W.nsIn K mainGlobals nm=some (some (.ref C))) (l:K.lookup C=some (excClassObj nm q C N bs bm true sn sub ab col dd ka kb kc kd ke "ValueError.__new__")) (n:K.lookup N=some ⟨nc,nd,.dict es ep,Nh⟩) (s:zx es=true) (k:PySem.W.keepIn K (.ref C)=true)
  (ga:PySem.W.findIn K (.ref C) "__getattribute__"=some (some (.builtin "BaseException.__getattribute__"))) (gx:PySem.W.findIn K (.ref C) "__getattr__"=some none) (ca:PySem.W.findIn K (.ref C) "__class__"=some (some (.builtin "object.__class__")))
  (cn:PySem.W.specialIn K (.builtin "object.__class__") "__get__"=some (some (.builtin "getset_descriptor.__get__"))) (ct:PySem.W.takesIn K (.builtin "object.__class__")=some true) (i:nsFind es "__init__"=lX):tI K mg C nm bm lX:=
 ⟨λ t=>⟨⟨⟨_,_,_,_,_,_,_,_,_,_,_,_,_,_,l,⟨_,_,_,_,_,n,s,λ _=>rfl⟩,i⟩,t⟩,λ e=>.own l ⟨_,_,_,_,_,n,s,λ _=>rfl⟩ (i.trans e) t⟩,λ x=>KZ x ga gx ca cn ct,k,PySem.W.mg_of X G a⟩
theorem JO {K:PySem.W.Frag}{mg:Str->Option Value}{c0 c1 c2 c3 c4 c5 c6 c7 c8:Addr}{r t:List Addr}{i7 i8:Option Value}(x0:tI K mg c0 "RoyalError" oK none)(x1:tI K mg c1 "BadFraction" (.ref c0 :: oK) none) (x2:tI K mg c2 "Taken" (.ref c0 :: oK) none) (x3:tI K mg c3 "NoName" (.ref c0 :: oK) none) (x4:tI K mg c4 "TooMuch" (.ref c0 :: oK) none) (x5:tI K mg c5 "NoRate" (.ref c0 :: oK) none) (x6:tI K mg c6 "NoneLeft" (.ref c0 :: oK) none) (x7:tI K mg c7 "Endless" (.ref c0 :: oK) i7) (x8:tI K mg c8 "BadRow" (.ref c0 :: oK) i8) :
  Xs ⟨K,cu (c0 :: c1 :: c2 :: c3 :: c4 :: c5 :: c6 :: c7 :: c8 :: r) t⟩ mg:=by
 obtain⟨y0,Ru⟩:=x0.tl .base
 have t0:=Ru rfl
 have y1:=(x1.tl t0).1
 have y2:=(x2.tl t0).1
 have y3:=(x3.tl t0).1
 have y4:=(x4.tl t0).1
 have y5:=(x5.tl t0).1
 have y6:=(x6.tl t0).1
 have y7:=(x7.tl t0).1
 have y8:=(x8.tl t0).1
 have Fq:∀ {p:Nat->Prop},p 0->p 1->p 2->p 3->p 4->p 5->p 6->p 7->p 8->∀ i,i < 9->p i:=λ {p} h0 h1 h2 h3 h4 h5 h6 h7 h8 i hi=>by
  match i,hi with
  | 0,_=>exact h0
  | 1,_=>exact h1
  | 2,_=>exact h2
  | 3,_=>exact h3
  | 4,_=>exact h4
  | 5,_=>exact h5
  | 6,_=>exact h6
  | 7,_=>exact h7
  | 8,_=>exact h8
  | n+9,h=>exact absurd h (by omega)
 refine⟨Fq ⟨_,y0,λ _=>rfl⟩ ⟨_,y1,λ _=>rfl⟩ ⟨_,y2,λ _=>rfl⟩ ⟨_,y3,λ _=>rfl⟩ ⟨_,y4,λ _=>rfl⟩ ⟨_,y5,λ _=>rfl⟩ ⟨_,y6,λ _=>rfl⟩ ⟨_,y7,λ h=>absurd h (by omega)⟩ ⟨_,y8,λ h=>absurd h (by omega)⟩,
  Fq (x0.is y0) (x1.is y1) (x2.is y2) (x3.is y3) (x4.is y4) (x5.is y5) (x6.is y6) (x7.is y7) (x8.is y8),Fq x0.kp x1.kp x2.kp x3.kp x4.kp x5.kp x6.kp x7.kp x8.kp,Fq x0.gl x1.gl x2.gl x3.gl x4.gl x5.gl x6.gl x7.gl x8.gl⟩
structure NP (K:PySem.W.Frag)(C:Addr)(fs:List Str):Prop where
 c:vd K C
 na:∀ f∈fs,iR K C f
theorem MZ {K:PySem.W.Frag}{C:Addr}{fs:List Str}{nm:Str}(a:PySem.W.nsIn K mainGlobals nm=some (some (.ref C))) (pg:PySem.W.plainGet K C Str.empty=true)(hd:PySem.W.hasDictIn K C=true)(po:PySem.W.plainOver K C=true)(sa:PySem.W.findIn K (.ref C) "__setattr__"=some (some (.builtin "object.__setattr__"))) (na:∀ f∈fs,PySem.W.findIn K (.ref C) f=some none):NP K C fs:=⟨⟨pg,hd,po,sa⟩,na⟩
theorem NP.bk {T:Tx}{C:Addr}{c:Nat}{fs:List Str}(h:NP T.K C fs)(e:T.cl c=C):Bk T c fs:=⟨by rw[e];exact h.c,λ f hf=>by rw[e];exact h.na f hf⟩
theorem da {K:PySem.W.Frag}{cl:Nat->Addr}{c:Nat}{C:Addr}{m qual:Str}{st:Stmt}{f:Addr}{oc:Value}{od an:Option Addr}{qp:Array (Option Value)}{kV doc pm dG ct:Value}(e:cl c=C)(a:PySem.W.findIn K (.ref C) m=some (some (.ref f)))
  (l:K.lookup f=some ⟨oc,od,.func (PySem.W.fnOf m qual (cS st) (bK st) (ax st) .none kV doc pm an dG ct),qp⟩) (cd:PySem.W.codeIn K dG qual=true) (k:PySem.W.keepIn K (.ref f)=true) (fn:PySem.W.isFn K (.ref f)=true):fC ⟨K,cl⟩ c m qual st:=
 ⟨f,_,sS l cd k,by show Meth K (cl c) m f;rw[e];exact⟨a,fn,k⟩⟩
theorem Jg {K:PySem.W.Frag}{cl:Nat->Addr}{h:Heap}{mg:Str->Option Value}{c:Nat}{C:Addr}{nm qual:Str}{st:Stmt}{f:Addr}{oc:Value}{od an:Option Addr}{qp:Array (Option Value)}{kV doc pm dG ct:Value}(X:K.In h)(G:h.Ns mainGlobals mg)(e:cl c=C)(g:PySem.W.nsIn K mainGlobals nm=some (some (.ref C))) (a:PySem.W.findIn K (.ref C) "__init__"=some (some (.ref f)))
  (l:K.lookup f=some ⟨oc,od,.func (PySem.W.fnOf "__init__" qual (cS st) (bK st) (ax st) .none kV doc pm an dG ct),qp⟩) (cd:PySem.W.codeIn K dG qual=true) (k:PySem.W.keepIn K (.ref f)=true) (fn:PySem.W.isFn K (.ref f)=true) (mk:PySem.W.makesIn K C=true) (kc:PySem.W.keepIn K (.ref C)=true):M8 ⟨K,cl⟩ mg c nm qual st:=
 ⟨f,_,sS l cd k,by show Mk K (cl c) f;rw[e];exact⟨mk,a,fn,kc⟩,by show mg nm=some (.ref (cl c));rw[e];exact PySem.W.mg_of X G g⟩
theorem Jf {K:PySem.W.Frag}{cl:Nat->Addr}{h:Heap}{mg:Str->Option Value}{x:Str}{st:Stmt}{i:Nat}{f cc P:Addr}{oc:Value}{od an:Option Addr}{qp:Array (Option Value)}{kV doc pm ct:Value}(X:K.In h)(G:h.Ns mainGlobals mg)(e:cl i=P)(a:PySem.W.nsIn K mainGlobals x=some (some (.ref f)))
  (l:K.lookup f=some ⟨oc,od,.func (PySem.W.fnOf x x (cS st) (bK st) (ax st) .none kV doc pm an (.ref cc) ct),qp⟩) (c:PySem.W.codeIn K (.ref cc) x=true) (k:PySem.W.keepIn K (.ref f)=true) (hc:PySem.W.codeHdIn K cc P=true):M7 ⟨K,cl⟩ mg x st i:=
 ⟨f,_,cc,sS l c k,PySem.W.mg_of X G a,rfl,by show PySem.W.codeHdIn K cc (cl i)=true;rw[e];exact hc⟩
theorem JT {K:PySem.W.Frag}{x:Str}{st:Stmt}{f cc P:Addr}{oc:Value}{od an:Option Addr}{qp:Array (Option Value)}{kV doc pm ct:Value}(a:PySem.W.nsIn K mainGlobals x=some (some (.ref f)))
  (l:K.lookup f=some ⟨oc,od,.func (PySem.W.fnOf x x (cS st) (bK st) (ax st) .none kV doc pm an (.ref cc) ct),qp⟩) (hc:PySem.W.codeHdIn K cc P=true):∃ c,PySem.W.codeHdIn K c P=true:=⟨cc,hc⟩
theorem HB {p:Str->Prop}:∀ f∈([]:List Str),p f:=λ _ h=>nomatch h
def ck:AV:=.int 182
noncomputable def nC:Ms:=
 (bq (aP (pY 20 "by_days.<locals>.<lambda>" (mv 0))))
noncomputable def cL:List AV->S->R AV:=eL 1 nC
noncomputable def gw:Ms:=
 (aD (gW 9 "keeps" (mv 0) vf)
 (aD (gW 9 "rows" (mv 0) vf)
 (aD (gW 9 "hands" (mv 0) vf)
 (aD (gW 9 "makers" (mv 0) vf)
 (aD (gW 9 "rates" (mv 0) vf)
 (aD (gW 9 "half" (mv 0) (mc ck))
 (aD (gW 9 "money" (mv 0) (aP (bS ae)))
    (gW 9 "debts" (mv 0) (aP (bS ae))))))))))
noncomputable def ao:List AV->S->R AV:=eL 1 gw
noncomputable def cU:Ms:=
 (gF (cB (ag pB (mv 1) (cC (cE 9 "keeps") (mv 0)))) (FE 3 (aa (nM (ij (mc (.str "no person is called ")) (ij (cC pA (mv 1)) uD))) ae)) cA)
noncomputable def aK:List AV->S->R AV:=eL 2 cU
noncomputable def dI:Ms:=
 (gF (cB (ag pB (mv 1) (cC (cE 9 "rows") (mv 0)))) (FE 3 (aa (nM (ij (mc (.str "no work is called ")) (ij (cC pA (mv 1)) uD))) ae)) cA)
noncomputable def aY:List AV->S->R AV:=eL 2 dI
noncomputable def gu:Ms:=
 (bq (Ni (ag jX (mv 1) (cC (cE 9 "keeps") (mv 0))) (ag jX (mv 1) (cC (cE 9 "rows") (mv 0)))))
noncomputable def b_:List AV->S->R AV:=eL 2 gu
noncomputable def dJ:Ms:=
 (gF (cT (aI 9 "has_name" 1 b_ (mv 0) (aa (mv 1) ae))) (FE 2 (aa (nM (ij (mc (.str "a person or a work is called ")) (ij (cC pA (mv 1)) (ij (mc (.str " already")) uD)))) ae)) cA)
noncomputable def aZ:List AV->S->R AV:=eL 2 dJ
noncomputable def dj:Ms:=
 (aD (bQ (aI 9 "need_free" 1 aZ (mv 0) (aa (mv 1) ae)))
    (jS (cC (cE 9 "keeps") (mv 0)) (mv 1) (mc kM)))
noncomputable def a8:List AV->S->R AV:=eL 2 dj
noncomputable def eF:Ms:=
 (aD (bQ (aI 9 "need_free" 1 aZ (mv 0) (aa (mv 1) ae)))
    (jS (cC (cE 9 "rows") (mv 0)) (mv 1) (iG ae)))
noncomputable def bG:List AV->S->R AV:=eL 2 eF
noncomputable def dU:Ms:=
 (bq (aP (lQ (cC (cE 9 "keeps") (mv 0)))))
noncomputable def bD:List AV->S->R AV:=eL 1 dU
noncomputable def fc:Ms:=
 (bq (aP (lQ (cC (cE 9 "rows") (mv 0)))))
noncomputable def bJ:List AV->S->R AV:=eL 1 fc
noncomputable def fe:Ms:=
 (aD (bQ (aI 9 "need_work" 1 aY (mv 0) (aa (mv 1) ae)))
 (bq (ag bh (cC (cE 9 "rows") (mv 0)) (mv 1))))
noncomputable def bA:List AV->S->R AV:=eL 2 fe
noncomputable def eB:Ms:=
 (aD (bQ (aI 9 "need_person" 1 aK (mv 0) (aa (mv 1) ae)))
 (bq (aP (cg [("giver",none),("day",none),("name",none),("part",none),("person",some 1)] (uc (nz (cC (cE 9 "hands") (mv 0)))) (gT 2 (aU (gT 2 (aU (gN 0) (aU (gN 1) g7))) (aU (gT 2 (aU (gN 2) (aU (gN 3) g7))) g7))) (cB (ag dQ (mv 0) (mv 4))) (iG (aa (mv 1) (aa (mv 2) (aa (mv 3) ae))))))))
noncomputable def bf:List AV->S->R AV:=eL 2 eB
noncomputable def eA:Ms:=
 (aD (bQ (aI 9 "need_work" 1 aY (mv 0) (aa (mv 1) ae)))
 (bq (qY (cC (cE 9 "makers") (mv 0)) (mv 1))))
noncomputable def bc:List AV->S->R AV:=eL 2 eA
noncomputable def fI:Ms:=
 (bq (aP (cg [("worth",none),("currency",none),("day",none)] (uc (nz (cC (cE 9 "rates") (mv 0)))) (gT 2 (aU (gT 2 (aU (gN 1) (aU (gN 2) g7))) (aU (gN 0) g7))) jt (iG (aa (mv 1) (aa (mv 2) (aa (mv 0) ae)))))))
noncomputable def bT:List AV->S->R AV:=eL 1 fI
noncomputable def d_:Ms:=
 (aD (bQ (aI 9 "need_person" 1 aK (mv 0) (aa (mv 1) ae)))
    (jS (cC (cE 9 "keeps") (mv 0)) (mv 1) (mv 2)))
noncomputable def bF:List AV->S->R AV:=eL 3 d_
noncomputable def fh:Ms:=
 (aD (bQ (aI 9 "need_person" 1 aK (mv 0) (aa (mv 1) ae)))
 (bq (ag bh (cC (cE 9 "keeps") (mv 0)) (mv 1))))
noncomputable def bB:List AV->S->R AV:=eL 2 fh
noncomputable def gq:Ms:=
  (gW 9 "half" (mv 0) (mv 1))
noncomputable def bN:List AV->S->R AV:=eL 2 gq
noncomputable def dM:Ms:=
 (bq (cC (cE 9 "half") (mv 0)))
noncomputable def aL:List AV->S->R AV:=eL 1 dM
noncomputable def di:Ms:=
 (bq (aP (kg (aE 1 cL (aa (cC (cE 9 "money") (mv 0)) ae)))))
noncomputable def aH:List AV->S->R AV:=eL 1 di
noncomputable def dN:Ms:=
 (bq (aP (kg (aE 1 cL (aa (cC (cE 9 "debts") (mv 0)) ae)))))
noncomputable def aM:List AV->S->R AV:=eL 1 dN
noncomputable def gm:Ms:=
 (bq (aP (cg [("_law_day",none),("_law_k",none),("_law_some",some 0)] (uc (lP (cg [("_law_k",none),("_law_one",none)] (xW (mv 0)) (gT 2 (aU (gN 0) (aU (gN 1) g7))) jt (iG (aa (ag br (mv 1) (mc (.int 1))) (aa (mv 0) ae)))))) (gT 2 (aU (gN 0) (aU (gN 1) g7))) jt (ag br (mv 2) (mv 1)))))
noncomputable def bL:List AV->S->R AV:=eL 1 gm
noncomputable def gh:Ms:=
 (bq (ag du (aP (kg (aE 2 dE (aa (mv 0) (aa (mc (.int 7)) ae))))) (aP (bS (aa (mc (.str "never")) ae)))))
noncomputable def b8:List AV->S->R AV:=eL 1 gh
noncomputable def nE:Ms:=
 (bq (ag br (mv 1) (aE 2 aQ (aa (mv 0) (aa (tN ie (aa (mv 1) ae)) ae)))))
noncomputable def gM:List AV->S->R AV:=eL 2 nE
noncomputable def kH:Ms:=
 (aD (bY 3 (aE 2 gM (aa (mv 0) (aa (mv 1) ae))))
 (aD (gF (cB (ag dQ (mv 2) (mc (.str "half")))) (bq (iG (aa (mv 2) (aa (FX (ag br (aP (bS (aa (mc (.int 1)) (aa (mc (.int 400)) (aa (mc (.int 182)) (aa (ag du (mc (.int 1)) (aE 2 aQ (aa (mv 0) (aa (mc (.int 400)) ae)))) ae)))))) (aE 2 aQ (aa (mv 0) (aa (mc (.int 4)) ae))))) ae)))) cA)
 (aD (gF (cB (ag dQ (mv 2) (mc (.str "keep")))) (bq (iG (aa (mv 2) (aa (mv 3) (aa (FX (ag br (aP (bS (aa (iG (aa (mc (.int 0)) (aa (mc (.int 1)) ae))) (aa (iG (aa (mc (.int 1)) (aa (mc (.int 1)) ae))) (aa (aE 1 dz (aa (mv 0) ae)) (aa (aE 1 dz (aa (mv 0) ae)) ae)))))) (aE 2 aQ (aa (mv 0) (aa (mc (.int 4)) ae))))) ae))))) cA)
 (bq (iG (aa (mv 2) (aa (mv 3) ae)))))))
noncomputable def eM:List AV->S->R AV:=eL 4 kH
noncomputable def dH:Ms:=
 (gF (cB (ag dQ (ag br (mv 1) (mc (.int 0))) (mc (.str "person")))) (bQ (aI 9 "add_person" 1 a8 (mv 0) (aa (ag br (mv 1) (mc (.int 1))) ae))) (gF (cB (ag dQ (ag br (mv 1) (mc (.int 0))) (mc (.str "work")))) (bQ (aI 9 "add_work" 1 bG (mv 0) (aa (ag br (mv 1) (mc (.int 1))) ae))) (gF (cB (ag dQ (ag br (mv 1) (mc (.int 0))) (mc (.str "keep")))) (bQ (aI 9 "put_keep" 2 bF (mv 0) (aa (ag br (mv 1) (mc (.int 1))) (aa (ag br (mv 1) (mc (.int 2))) ae)))) (bQ (aI 9 "put_half" 1 bN (mv 0) (aa (ag br (mv 1) (mc (.int 1))) ae))))))
noncomputable def bC:List AV->S->R AV:=eL 2 dH
noncomputable def hR:Ms:=
 (aD (bY 2 (mc .aC))
 (aD (mX 6 5 (λ c=>decide (c < 9) && aj 0 c) (bQ (aE 2 bC (aa (mv 0) (aa (mv 1) ae)))) (bY 2 (mv 5)))
 (aD (gF (cB (ag jV (mv 2) (mc .aC))) (bq (mc (.str ""))) cA)
 (aD (bY 3 (aP (bS (aa (cC (bH (jz 2)) (mv 2)) (aa (cC (bH (jz 3)) (mv 2)) (aa (cC (bH (jz 4)) (mv 2)) ae))))))
 (aD (bY 3 (ag du (mv 3) (aP (bS (aa (cC (bH (jz 5)) (mv 2)) (aa (cC (bH (jz 6)) (mv 2)) ae))))))
 (aD (bY 4 (aP (cg [("_law_k",none),("_law_told",some 3)] (rX (aa (mc (.int 5)) ae)) (gN 0) (cT (ag br (mv 1) (mv 0))) (Cq (ag br (aP (bS (aa (mc (.str "taken")) (aa (mc (.str "name")) (aa (mc (.str "much")) (aa (mc (.str "rate")) (aa (mc (.str "left")) ae))))))) (mv 0))))))
 (aD (gF (Cv (cB (ag pq (tN ie (aa (mv 4) ae)) (mc (.int 1)))) (Cv (cT (cC (bH (qA [1,8,7])) (mv 2))) (tm (cT (cC (bH yK) (mv 2)))))) (bq (mc (.str "many"))) cA)
 (bq (ag br (mv 4) (mc (.int 0)))))))))))
noncomputable def cM:List AV->S->R AV:=eL 6 hR
noncomputable def ju:Ms:=
 (aD (bY 0 (jC [((mc (.str "people")),(aP (bS ae))),((mc (.str "works")),vf),((mc (.str "hands")),(aP (bS ae))),((mc (.str "known")),vf),((mc (.str "rates")),(aP (bS ae))),((mc (.str "keeps")),vf),((mc (.str "half")),(mc (.int 182)))]))
 (aD (vx (iG (aa (aP (bS ae)) (aa (aP (bS ae)) ae))) (gT 2 (aU (pX (mv 0) (mc (.str "money"))) (aU (pX (mv 0) (mc (.str "debts"))) g7))))
 (bq (mv 0))))
noncomputable def cP:List AV->S->R AV:=eL 1 ju
noncomputable def lV:Ms:=
 (aD (n9 2 3 (aa (ag bh (mv 0) (mc (.str "people"))) (aa (ag bh (mv 0) (mc (.str "works"))) ae)))
 (aD (gF (cB (ag dQ (ag br (mv 1) (mc (.int 0))) (mc (.str "half")))) (jS (mv 0) (mc (.str "half")) (ag br (mv 1) (mc (.int 1)))) (gF (cB (ag dQ (ag br (mv 1) (mc (.int 0))) (mc (.str "keep")))) (aD (gF (cB (ag qR (ag br (mv 1) (mc (.int 1))) (mv 2))) (bq (mc (.str "name"))) cA)
    (jS (ag bh (mv 0) (mc (.str "keeps"))) (ag br (mv 1) (mc (.int 1))) (ag br (mv 1) (mc (.int 2))))) (gF (Cv (cB (ag qq (ag br (mv 1) (mc (.int 1))) (mv 2))) (cB (ag jX (ag br (mv 1) (mc (.int 1))) (mv 3)))) (bq (mc (.str "taken"))) (gF (cB (ag dQ (ag br (mv 1) (mc (.int 0))) (mc (.str "person")))) (bQ (pL "list" cV (mv 2) (aa (ag br (mv 1) (mc (.int 1))) ae))) (jS (mv 3) (ag br (mv 1) (mc (.int 1))) (iG ae))))))
 (bq (mc (.str "")))))
noncomputable def eJ:List AV->S->R AV:=eL 4 lV
noncomputable def gp:Ms:=
 (aD (n9 2 3 (aa (aI 9 "work_names" 0 bJ (mv 0) ae) (aa (aI 9 "person_names" 0 bD (mv 0) ae) ae)))
 (aD (bY 1 (aP (bS (aa (mv 3) (aa (mv 2) (aa (aP (cg [("_law_work",none),("_law_book",some 0)] (fO (mv 2)) (gN 0) jt (aI 9 "rows_of" 1 bA (mv 1) (aa (mv 0) ae)))) (aa (aP (cg [("_law_person",none),("_law_book",some 0)] (fO (mv 3)) (gN 0) jt (aI 9 "hands_of" 1 bf (mv 1) (aa (mv 0) ae)))) ae)))))))
 (aD (bY 1 (ag du (mv 1) (aP (bS (aa (aP (cg [("_law_work",none),("_law_book",some 0)] (fO (mv 2)) (gN 0) jt (aI 9 "known_of" 1 bc (mv 1) (aa (mv 0) ae)))) (aa (aP (cg [("_law_person",none),("_law_book",some 0)] (fO (mv 3)) (gN 0) jt (aI 9 "keep_of" 1 bB (mv 1) (aa (mv 0) ae)))) ae))))))
 (bq (ag du (mv 1) (aP (bS (aa (aI 9 "rate_list" 0 bT (mv 0) ae) (aa (aI 9 "half_days" 0 aL (mv 0) ae) (aa (aI 9 "money_list" 0 aH (mv 0) ae) (aa (aI 9 "debt_list" 0 aM (mv 0) ae) ae)))))))))))
noncomputable def bM:List AV->S->R AV:=eL 4 gp
noncomputable def hU:Ms:=
 (aD (n9 2 3 (aa (aP (lQ (ag bh (mv 0) (mc (.str "works"))))) (aa (aP (lO (ag bh (mv 0) (mc (.str "people"))))) ae)))
 (aD (bY 1 (aP (bS (aa (mv 3) (aa (mv 2) (aa (aP (cg [("_law_work",none),("_law_world_here",some 0)] (fO (mv 2)) (gN 0) jt (ag bh (ag bh (mv 1) (mc (.str "works"))) (mv 0)))) ae))))))
 (aD (bQ (pL "list" cV (mv 1) (aa (aP (cg [("_law_person",none),("_law_world_here",some 0)] (fO (mv 3)) (gN 0) jt (aP (lP (cg [("_law_one",none),("_law_person",some 0)] (fO (ag bh (mv 1) (mc (.str "hands")))) (gN 0) (cB (ag dQ (ag br (mv 0) (mc (.int 0))) (mv 1))) (Es (mv 0) (oS (mc (.int 1))) oN)))))) ae)))
 (aD (bQ (pL "list" cV (mv 1) (aa (aP (cg [("_law_work",none),("_law_world_here",some 0)] (fO (mv 2)) (gN 0) jt (qY (ag bh (mv 1) (mc (.str "known"))) (mv 0)))) ae)))
 (aD (bQ (pL "list" cV (mv 1) (aa (aP (cg [("_law_person",none),("_law_world_here",some 0)] (fO (mv 3)) (gN 0) jt (pM (ag bh (mv 1) (mc (.str "keeps"))) (mv 0) (iG (aa (mc (.int 0)) (aa (mc (.int 1)) ae)))))) ae)))
 (aD (bY 1 (ag du (mv 1) (aP (bS (aa (aP (lO (ag bh (mv 0) (mc (.str "rates"))))) (aa (ag bh (mv 0) (mc (.str "half"))) ae))))))
 (bq (ag du (mv 1) (aP (bS (aa (aP (kg (aE 1 bL (aa (ag bh (mv 0) (mc (.str "money"))) ae)))) (aa (aP (kg (aE 1 bL (aa (ag bh (mv 0) (mc (.str "debts"))) ae)))) ae))))))))))))
noncomputable def bV:List AV->S->R AV:=eL 4 hU
noncomputable def iO:Ms:=
 (aD (ud (rX (aa (mv 5) ae)) (gN 6) (aD (bY 7 (aE 3 eM (aa (mv 0) (aa (mv 3) (aa (ag br (mv 4) (aE 2 aQ (aa (mv 0) (aa (tN ie (aa (mv 4) ae)) ae)))) ae)))))
 (aD (bY 8 (aE 2 eJ (aa (mv 2) (aa (mv 7) ae))))
 (aD (gF (tm (cT (aE 2 (au 9) (aa (aE 2 cM (aa (mv 1) (aa (mv 7) ae))) (aa (mv 8) ae))))) (bq (mc (.bl false))) cA)
 (gF (tm (cT (Cq (aE 2 (au 9) (aa (aE 1 bM (aa (mv 1) ae)) (aa (aE 1 bV (aa (mv 2) ae)) ae)))))) (bq (mc (.bl false))) cA)))))
 (bq (mc (.bl true))))
noncomputable def cx:List AV->S->R AV:=eL 9 iO
noncomputable def gn:Ms:=
 (aD (bY 3 (mc .aC))
 (aD (mX 5 4 (λ c=>decide (c < 9) && aj 0 c) (gF (cB (ag dQ (mv 1) (mc (.int 0)))) (bQ (aI 9 "rows_of" 1 bA (mv 0) (aa (mv 2) ae))) (gF (cB (ag dQ (mv 1) (mc (.int 1)))) (bQ (aI 9 "hands_of" 1 bf (mv 0) (aa (mv 2) ae))) (gF (cB (ag dQ (mv 1) (mc (.int 2)))) (bQ (aI 9 "known_of" 1 bc (mv 0) (aa (mv 2) ae))) (bQ (aI 9 "keep_of" 1 bB (mv 0) (aa (mv 2) ae)))))) (bY 3 (mv 4)))
 (aD (gF (cB (ag jV (mv 3) (mc .aC))) (bq (mc (.bl false))) cA)
 (bq (sI (cC (bH (jz 3)) (mv 3)) (cC qQ (cC (bH (qA [1,8,7,6,5])) (mv 3))))))))
noncomputable def b9:List AV->S->R AV:=eL 5 gn
noncomputable def e_:Ms:=
 (aD (ud (fO (mv 2)) (gN 3) (ud (rX (aa (mc (.int 4)) ae)) (gN 4) (aD (bY 5 (Jx (cB (ag qq (mv 4) (iG (aa (mc (.int 0)) (aa (mc (.int 2)) ae))))) (ag bh (mv 1) (mc (.str "works"))) (ag bh (mv 1) (mc (.str "people")))))
 (gF (cB (ag dQ (aE 3 b9 (aa (mv 0) (aa (mv 4) (aa (mv 3) ae)))) (ag pz (mv 3) (mv 5)))) (bq (mc (.bl false))) cA))))
 (bq (mc (.bl true))))
noncomputable def bz:List AV->S->R AV:=eL 6 e_
noncomputable def jw:Ms:=
 (aD (n9 3 4 (aa (cF 9 ao) (aa (aE 0 cP ae) ae)))
 (aD (ud (fO (Es (mv 1) oN (oS (mc (.int 7))))) (gN 2) (aD (bY 5 (iG (aa (FX (ag br (aP (bS (aa (mc (.str "person")) (aa (mc (.str "work")) ae)))) (aE 2 aQ (aa (mv 0) (aa (mc (.int 2)) ae))))) (aa (mv 2) ae))))
 (aD (bQ (aE 2 eJ (aa (mv 4) (aa (mv 5) ae))))
 (bQ (aE 2 bC (aa (mv 3) (aa (mv 5) ae)))))))
 (bq (iG (aa (mv 3) (aa (mv 4) ae))))))
noncomputable def cQ:List AV->S->R AV:=eL 6 jw
noncomputable def B':Ms:=
 (aD (bY 1 (aE 1 dF (aa (mv 0) ae)))
 (aD (bY 2 (aP (kg (aE 1 b8 (aa (mv 1) ae)))))
 (aD (gF (tm (cT (Cq (aE 2 (au 9) (aa (aP (bS (aa (aI 9 "half_days" 0 aL (cF 9 ao) ae) (aa (aI 9 "money_list" 0 aH (cF 9 ao) ae) (aa (aI 9 "debt_list" 0 aM (cF 9 ao) ae) ae))))) (aa (aP (bS (aa (mc (.int 182)) (aa (aP (bS ae)) (aa (aP (bS ae)) ae))))) ae)))))) (bq (mc (.bl false))) cA)
 (aD (vx (aE 2 cQ (aa (mv 1) (aa (Es (mv 2) oN (oS (mc (.int 5)))) ae))) (gT 2 (aU (gN 4) (aU (gN 5) g7))))
 (aD (bY 3 (aP (bS (aa (mc (.str "keep")) (aa (mc (.str "keep")) (aa (mc (.str "half")) (aa (mc (.str "person")) (aa (mc (.str "work")) ae))))))))
 (aD (gF (tm (cT (aE 6 cx (aa (mv 1) (aa (mv 4) (aa (mv 5) (aa (mv 2) (aa (mv 3) (aa (ag du (mc (.int 15)) (aE 2 aQ (aa (mv 1) (aa (mc (.int 26)) ae)))) ae))))))))) (bq (mc (.bl false))) cA)
 (bq (aE 3 bz (aa (mv 4) (aa (mv 5) (aa (mv 2) ae)))))))))))
noncomputable def p8:List AV->S->R AV:=eL 6 B'
def top (i:Nat):Stmt:=PySem.Challenge.pw_royaltree_k16_keeps_and_halves.main.body.getD i (.Pass ⟨0,0,0,0⟩)
set_option hygiene false in
local macro_rules | `(tactic| walk_at "q") => `(tactic| first
 | ((with_reducible show PE _ _ (tE _ _ (mv _)));exact OT (pv _))
 | ((with_reducible show PA _ (_ :: _) (tK _)); refine wM xs (by decide) ?_ <;> walk_at "q")
 | ((with_reducible show PA _ [] (tK _));exact wL)
 | ((with_reducible show PA _ (_ :: _) _); refine uj ?_ ?_ <;> walk_at "q")
 | ((with_reducible exact wK))
 | ((with_reducible exact Ie))
 | ((with_reducible exact HV))
 | ((with_reducible exact HY))
 | ((with_reducible exact Lf))
 | ((with_reducible show(_:Nat)<=_);first|decide|omega)
 | ((with_reducible show PE _ _ (tE _ _ (mc _)));exact H_ (by with_reducible assumption:Cz T mg _ _))
 | ((with_reducible show PE _ _ (tE _ _ (ag du _ _))); refine pK (OI rfl) ?_ ?_ <;> walk_at "q")
 | ((with_reducible show PE _ _ (tE _ _ (ag jU _ _))); refine pK (OF) ?_ ?_ <;> walk_at "q")
 | ((with_reducible show PE _ _ (tE _ _ (ag mZ _ _))); refine pK (KP) ?_ ?_ <;> walk_at "q")
 | ((with_reducible show PE _ _ (tE _ _ (ag h_ _ _))); refine pK (oMod) ?_ ?_ <;> walk_at "q")
 | ((with_reducible show PE _ _ (tE _ _ (ag wN _ _))); refine pK (OD) ?_ ?_ <;> walk_at "q")
 | ((with_reducible show PE _ _ (tE _ _ (aE _ _ ae))); refine Il (by with_reducible assumption : gK P w T mg base _ _ _ _) (hr.mono ?_) (by first | with_reducible assumption | exact Jy) <;> walk_at "q")
 | ((with_reducible show PE _ _ (tE _ _ (aE _ _ _))); refine Lg (by with_reducible assumption : gK P w T mg base _ _ _ _) (hr.mono ?_) ?_ (by first | with_reducible assumption | exact Jy) <;> walk_at "q")
 | ((with_reducible show PE _ _ (tE _ _ (cC (bH yK) _))); refine Ib xs (by with_reducible assumption : mg _ = none) (by with_reducible assumption : mg _ = none) ?_ <;> walk_at "q")
 | ((with_reducible show PE _ _ (tE _ _ (cC (bH (jz _)) _))); refine Ic xs (by decide) (by with_reducible assumption : mg _ = none) ?_ <;> walk_at "q")
 | ((with_reducible show PE _ _ (tE _ _ (cC (bH (qA _)) _))); refine Ei xs (by decide) (by decide) (by with_reducible assumption : mg _ = none) ?_ ?_ <;> walk_at "q")
 | ((with_reducible show PA _ (_ :: _) (tK _)); refine wM xs (by decide) ?_ <;> walk_at "q")
 | ((with_reducible show PA _ [] (tK _));exact wL)
 | ((with_reducible show PE _ _ (tE _ _ (cC (cE _ _) _))); refine Ii bk.cl (bk.na _ (by decide +kernel)) ?_ <;> walk_at "q")
 | ((with_reducible show PE _ _ (tE _ _ (aI _ _ _ _ _ ae))); refine A2 bk.cl (by with_reducible assumption : ja P w T mg base _ _ _ _ _) (hr.mono ?_) ?_ (by first | with_reducible assumption | exact Jy) <;> walk_at "q")
 | ((with_reducible show PE _ _ (tE _ _ (aI _ _ _ _ _ _))); refine Ef bk.cl (by with_reducible assumption : ja P w T mg base _ _ _ _ _) (hr.mono ?_) ?_ ?_ (by first | with_reducible assumption | exact Jy) <;> walk_at "q")
 | ((with_reducible show PE _ _ (tE _ _ (cF _ _))); refine A4 (by with_reducible assumption : M6 P w T mg base _ _ _ _) (hr.mono ?_) (by first | with_reducible assumption | exact Jy) <;> walk_at "q")
 | ((with_reducible show PS _ _ (tS _ _ (gW _ _ _ _))); refine HJ bk.cl (bk.na _ (by decide +kernel)) ?_ ?_ <;> walk_at "q")
 | ((with_reducible show PE _ _ (tE _ _ (qY _ _))); refine Em uE ?_ ?_ <;> walk_at "q")
 | ((with_reducible show PE _ _ (tL _ _ (lO _))); refine AS (by with_reducible assumption : mg _ = none) ?_ <;> walk_at "q")
 | ((with_reducible show PE _ _ (tL _ _ (lP _))); refine AU (by with_reducible assumption : mg _ = none) ?_ <;> walk_at "q")
 | ((with_reducible show PI _ _ _ (tW _ _ (xW _))); refine D_ rfl (by with_reducible assumption : mg _ = none) ?_ <;> walk_at "q")
 | ((with_reducible show PE _ _ (tL _ _ (pY _ _ _))); refine AW (by with_reducible assumption : mg _ = none) rfl hC ?_ <;> walk_at "q")
 | ((with_reducible show PE _ _ (tE _ _ (ag pz _ _))); refine jj (KO rfl uE) ?_ ?_ <;> walk_at "q")
 | ((with_reducible show PT _ _ (jQ _ _ (cB (ag pz _ _)))); refine gG (KO rfl uE) ?_ ?_ <;> walk_at "q")
 | ((with_reducible show PG _ _ (tT _ _ (pX _ _))); refine Ed uE ?_ ?_ <;> walk_at "q")
 | ((with_reducible exact DN))
 | ((with_reducible show PS _ _ (tS _ _ (FE _ _))); refine KW xs (by decide) (by first | with_reducible assumption | exact Jy) ?_ <;> walk_at "q")
 | ((with_reducible show PS _ _ (tS _ _ (mX _ _ _ _ _))); refine KU xs (by decide) nd (fun _ _ _ _ => ?_) (fun _ => ?_) <;> walk_at "q")
 | ((with_reducible show PE _ _ (tE _ _ (ag br _ _))); refine La (RN rfl) ?_ ?_ <;> walk_at "q")
 | ((with_reducible show PE _ _ (tE _ _ (ag bh _ _))); refine Er uE ?_ ?_ <;> walk_at "q")
 | ((with_reducible show PE _ _ (tE _ _ (iG _))); refine HU ?_ <;> walk_at "q")
 | ((with_reducible show PE _ _ (tE _ _ (aP _))); refine HZ ?_ <;> walk_at "q")
 | ((with_reducible show PE _ _ (tL _ _ (bS _))); refine HM ?_ <;> walk_at "q")
 | ((with_reducible show PE _ _ (tE _ _ (ag dQ _ _))); refine jj (oEq rfl hu) ?_ ?_ <;> walk_at "q")
 | ((with_reducible show PE _ _ (tE _ _ (ag pq _ _))); refine jj (Qz rfl hu) ?_ ?_ <;> walk_at "q")
 | ((with_reducible show PE _ _ (tE _ _ (ag Aq _ _))); refine jj (oLt) ?_ ?_ <;> walk_at "q")
 | ((with_reducible show PE _ _ (tE _ _ (ag vG _ _))); refine jj (QA) ?_ ?_ <;> walk_at "q")
 | ((with_reducible show PE _ _ (tE _ _ (ag As _ _))); refine jj (QB) ?_ ?_ <;> walk_at "q")
 | ((with_reducible show PE _ _ (tE _ _ (ag jV _ _))); refine jj (KN) ?_ ?_ <;> walk_at "q")
 | ((with_reducible show PE _ _ (tE _ _ (ag qq _ _))); refine jj (OG rfl) ?_ ?_ <;> walk_at "q")
 | ((with_reducible show PE _ _ (tE _ _ (ag qR _ _))); refine jj (KL rfl) ?_ ?_ <;> walk_at "q")
 | ((with_reducible show PT _ _ (jQ _ _ (cB (ag dQ _ _)))); refine gG (oEq rfl hu) ?_ ?_ <;> walk_at "q")
 | ((with_reducible show PT _ _ (jQ _ _ (cB (ag pq _ _)))); refine gG (Qz rfl hu) ?_ ?_ <;> walk_at "q")
 | ((with_reducible show PT _ _ (jQ _ _ (cB (ag Aq _ _)))); refine gG (oLt) ?_ ?_ <;> walk_at "q")
 | ((with_reducible show PT _ _ (jQ _ _ (cB (ag vG _ _)))); refine gG (QA) ?_ ?_ <;> walk_at "q")
 | ((with_reducible show PT _ _ (jQ _ _ (cB (ag As _ _)))); refine gG (QB) ?_ ?_ <;> walk_at "q")
 | ((with_reducible show PT _ _ (jQ _ _ (cB (ag jV _ _)))); refine gG (KN) ?_ ?_ <;> walk_at "q")
 | ((with_reducible show PT _ _ (jQ _ _ (cB (ag qq _ _)))); refine gG (OG rfl) ?_ ?_ <;> walk_at "q")
 | ((with_reducible show PT _ _ (jQ _ _ (cB (ag qR _ _)))); refine gG (KL rfl) ?_ ?_ <;> walk_at "q")
 | ((with_reducible show PE _ _ (tE _ _ (ag jX _ _))); refine Ij uE ?_ ?_ <;> walk_at "q")
 | ((with_reducible show PT _ _ (jQ _ _ (cB (ag jX _ _)))); refine GZ uE ?_ ?_ <;> walk_at "q")
 | ((with_reducible show PT _ _ (jQ _ _ (cB (ag pB _ _)))); refine Dh uE ?_ ?_ <;> walk_at "q")
 | ((with_reducible refine Km ?_) <;> walk_at "q")
 | ((with_reducible refine Dd ?_) <;> walk_at "q")
 | ((with_reducible refine PW.pt (pw_or' ?_ ?_)) <;> walk_at "q")
 | ((with_reducible refine pw_or' ?_ ?_) <;> walk_at "q")
 | ((with_reducible refine pw_or1' ?_) <;> walk_at "q")
 | ((with_reducible show PT _ _ (jQ _ _ (cT _))); refine Oz rfl ?_ <;> walk_at "q")
 | ((with_reducible refine HX ?_) <;> walk_at "q")
 | ((with_reducible show PE _ _ (tE _ _ (cC wO _))); refine K9 OE ?_ <;> walk_at "q")
 | ((with_reducible refine Ik ?_ ?_) <;> walk_at "q")
 | ((with_reducible refine K' ?_ ?_) <;> walk_at "q")
 | ((with_reducible refine HW ?_) <;> walk_at "q")
 | ((with_reducible show PE _ _ (tE _ _ (Jx _ _ _))); refine Lb ?_ ?_ ?_ <;> walk_at "q")
 | ((with_reducible exact Le))
 | ((with_reducible show PE _ _ (tE _ _ (jC _))); (with_reducible refine Ep ?hh ?ha ?hb ?hc ?hd); (case ha => rfl); (case hb => rfl); (case hc => exact List.cons_ne_nil _ _); (case hd => decide); walk_at "q")
 | ((with_reducible refine AR ?_ ?_ ?_) <;> walk_at "q")
 | ((with_reducible exact D5))
 | ((with_reducible show PE _ _ (tE _ _ (Es _ _ _))); refine K_ rfl ?_ ?_ ?_ <;> walk_at "q")
 | ((with_reducible exact zW))
 | ((with_reducible refine zV ?_) <;> walk_at "q")
 | ((with_reducible refine Ld ?_) <;> walk_at "q")
 | ((with_reducible refine Ig ?_) <;> walk_at "q")
 | ((with_reducible refine D6 ?_) <;> walk_at "q")
 | ((with_reducible refine HL ?_) <;> walk_at "q")
 | ((with_reducible show PE _ _ (tE _ _ (pM _ _ _))); refine El uE ?_ ?_ ?_ <;> walk_at "q")
 | ((with_reducible show PE _ _ (tL _ _ (By "str" mf _ _))); refine HR rfl PySem.F.plainAttrs_str PySem.F.slot_str_split PySem.F.type_str_split Jk ?_ ?_ <;> walk_at "q")
 | ((with_reducible show PE _ _ (tE _ _ (pL "list" cV _ _))); refine A3 rfl PySem.F.plainAttrs_list PySem.F.slot_list_append PySem.F.type_list_append Fe ?_ ?_ <;> walk_at "q")
 | ((with_reducible show PE _ _ (tE _ _ (pL "list" uk _ _))); refine A3 rfl PySem.F.plainAttrs_list PySem.F.slot_list_pop PySem.F.type_list_pop P0 ?_ ?_ <;> walk_at "q")
 | ((with_reducible show PE _ _ (tE _ _ (tN ie _))); refine Im (P6 rfl) (by with_reducible assumption : mg _ = none) PySem.boot_len ?_ <;> walk_at "q")
 | ((with_reducible show PE _ _ (tE _ _ (tN qS _))); refine Im (cAbs) (by with_reducible assumption : mg _ = none) Ro.boot_abs ?_ <;> walk_at "q")
 | ((with_reducible show PE _ _ (tE _ _ (tN jW _))); refine Im (Fi) (by with_reducible assumption : mg _ = none) Ro.boot_divmod ?_ <;> walk_at "q")
 | ((with_reducible show PE _ _ (tE _ _ (Cr zL _))); refine K5 (P7 rfl) (by with_reducible assumption : mg _ = none) Ro.boot_all ?_ <;> walk_at "q")
 | ((with_reducible show PE _ _ (tL _ _ (Cr wF _))); refine OS (MX rfl) (by with_reducible assumption : mg _ = none) Ro.boot_list ?_ <;> walk_at "q")
 | ((with_reducible show PE _ _ (tL _ _ (lQ _))); refine AZ (by with_reducible assumption : mg _ = none) ?_ <;> walk_at "q")
 | ((with_reducible show PE _ _ (tL _ _ (nz _))); refine AY (by with_reducible assumption : mg _ = none) ?_ <;> walk_at "q")
 | ((with_reducible show PE _ _ (tE _ _ (cC (fQ _) _))); refine Ia rfl (by decide) (by with_reducible assumption : mg _ = none) (by with_reducible assumption : mg _ = none) (by first | exact Ro.boot_int | exact Ro.boot_bool | exact Ro.boot_list | exact Ro.boot_tuple | exact Ro.boot_str) ?_ <;> walk_at "q")
 | ((with_reducible show PE _ _ (tE _ _ (cC pA _))); refine Ih rfl ?_ <;> walk_at "q")
 | ((with_reducible show PE _ _ (tE _ _ (nM _))); refine Eg ?_ <;> walk_at "q")
 | ((with_reducible show PJ _ (_ :: _) (tJ _ _ (ij _ _))); refine D9 ?_ ?_ <;> walk_at "q")
 | ((with_reducible exact HN))
 | ((with_reducible show PE _ _ (tL _ _ (cg _ _ _ _ _))); refine D8 _ (eN.of rfl (by decide +kernel) (by decide +kernel) (by decide +kernel) (by repeat (first | exact trivial | refine ⟨⟨rfl, rfl, by first | exact .inl rfl | exact .inr rfl⟩, ?_⟩))) rfl ?_ (fun _ _ _ _ _ => ?_) (fun _ _ _ _ _ => ?_) (fun _ _ _ _ _ => ?_) <;> walk_at "q")
 | ((with_reducible exact zY))
 | ((with_reducible refine zX ?_) <;> walk_at "q")
 | ((with_reducible show PI _ _ _ (tW _ _ (rX (aa _ ae)))); refine K0 (by with_reducible assumption : mg _ = none) ?_ <;> walk_at "q")
 | ((with_reducible show PI _ _ _ (tW _ _ (zA _ _))); refine HP rfl (by with_reducible assumption : mg _ = none) ?_ ?_ <;> walk_at "q")
 | ((with_reducible show PI _ _ _ (tW _ _ (uc _))); refine OQ rfl ?_ <;> walk_at "q")
 | ((with_reducible show PI _ _ _ (tW _ _ (fO _))); refine OP rfl ?_ <;> walk_at "q")
 | ((with_reducible show PG _ _ (tT _ _ (gN _)));exact Ee (by first|exact nd|(show List.Nodup (_ :: _);decide +kernel)))
 | ((with_reducible show PG _ _ (tT _ _ (gT _ _))); refine HQ rfl rfl ?_ <;> walk_at "q")
 | ((with_reducible show PG _ _ (tT _ _ (kq _ _))); refine Ec ?_ ?_ <;> walk_at "q")
 | ((with_reducible show xJ _ (_ :: _) _); refine A1 ?_ ?_ <;> walk_at "q")
 | ((with_reducible exact Ea))
 | ((with_reducible exact DO))
 | ((with_reducible exact Hy))
 | ((with_reducible exact DM))
 | ((with_reducible refine DP ?_ ?_) <;> walk_at "q")
 | ((with_reducible refine Hx ?_) <;> walk_at "q")
 | ((with_reducible show PS _ _ (tS _ _ (bY _ (aP (cg _ _ _ _ _))))); refine vL _ (eN.of rfl (by decide +kernel) (by decide +kernel) (by decide +kernel) (by repeat (first | exact trivial | refine ⟨⟨rfl, rfl, by first | exact .inl rfl | exact .inr rfl⟩, ?_⟩))) rfl nd ?_ (fun _ _ _ _ _ => ?_) (fun _ _ _ _ _ => ?_) (fun _ _ _ _ _ => ?_) <;> walk_at "q")
 | ((with_reducible show PS _ _ (tS _ _ (bY _ (jC _)))); (with_reducible refine DX ?hN ?_ ?hi ?hx ?hf); (case hN => exact nd); (case hi => rfl); (case hx => exact Or.inl rfl); (case hf => exact Or.inl rfl); walk_at "q")
 | ((with_reducible show PS _ _ (tS _ _ (bY _ _))); refine AN nd ?_ <;> walk_at "q")
 | ((with_reducible show PS _ _ (tS _ _ (bq _))); refine HG ?_ <;> walk_at "q")
 | ((with_reducible show PS _ _ (tS _ _ (gF _ _ _))); refine KY ?_ ?_ ?_ <;> walk_at "q")
 | ((with_reducible show PS _ _ (tS _ _ (bQ _))); refine DY ?_ <;> walk_at "q")
 | ((with_reducible show PS _ _ (tS _ _ (ud _ _ _))); refine HI (by first | exact An | exact PassesOwn.never) rfl ?_ ?_ ?_ <;> walk_at "q")
 | ((with_reducible show PS _ _ (tS _ _ (n9 _ _ _))); refine HH rfl nd ?_ <;> walk_at "q")
 | ((with_reducible show PS _ _ (tS _ _ (vx _ _))); refine HK ?_ ?_ ?_ <;> walk_at "q")
 | ((with_reducible show PS _ _ (tS _ _ (jS _ _ _))); refine DZ uE ?_ ?_ ?_ <;> walk_at "q")
 | ((with_reducible show PS _ _ (tS _ _ (C5 _ _ _))); refine HE _ (by first | exact An | exact PassesOwn.never) ?_ ?_ <;> walk_at "q")
 | ((with_reducible show kI _ _ (tS _ _ (aD _ _))); refine AM ?_ ?_ <;> walk_at "q")
 | ((with_reducible show kI _ _ (tS _ _ cA));exact DW)
 | (refine DV ?_ <;> walk_at "q"))
local macro_rules | `(tactic| walk_at "b") => `(tactic| (intro _ _ _ _ _ _ us hl; first
 | (match us,hl with|[],_=>rfl)|(match us,hl with|[_],_=>rfl)|(match us,hl with|[_,_],_=>rfl)|(match us,hl with|[_,_,_],_=>rfl)|(match us,hl with|[_,_,_,_],_=>rfl)
 | (match us,hl with|[_,_,_,_,_],_=>rfl)|(match us,hl with|[_,_,_,_,_,_],_=>rfl)|(match us,hl with|[_,_,_,_,_,_,_],_=>rfl)))
set_option hygiene false in
local macro_rules | `(tactic| walk_at "g") => `(tactic| (intro hr nd ls; have uE := FO hr; have hu := LA hr; walk_at "q"))
section
variable {P:Program}{w:World}{T:Tx}{mg:Str->Option Value}{base:Heap}(xs:Xs T mg)(bk:Bk T 9 ["keeps","rows","hands","makers","rates","half","money","debts"])
variable (cN:mg "ValueError"=none)
variable (oV:mg "abs"=none)
variable (oU:mg "all"=none)
variable (lr:mg "bool"=none)
variable (gO:mg "divmod"=none)
variable (dt:mg "enumerate"=none)
variable (oR:mg "int"=none)
variable (bu:mg "isinstance"=none)
variable (fN:mg "len"=none)
variable (jc:mg "list"=none)
variable (dC:mg "range"=none)
variable (bt:mg "sorted"=none)
variable (oQ:mg "str"=none)
variable (jb:mg "tuple"=none)
variable (oP:mg "zip"=none)
variable (bw:Cz T mg "FIRST_HALF_DAYS" ck)
variable (fE:Cz T mg "NOTHING" kM)
variable (iZ:gK P w T mg base "by_days" 1 1 cL)
variable (cY:M6 P w T mg base 9 "Book" 1 ao)
variable (bj:ja P w T mg base 9 "need_person" 1 1 aK)
variable (cG:ja P w T mg base 9 "need_work" 1 1 aY)
variable (gc:ja P w T mg base 9 "has_name" 1 1 b_)
variable (cH:ja P w T mg base 9 "need_free" 1 2 aZ)
variable (eY:ja P w T mg base 9 "add_person" 1 3 a8)
variable (gd:ja P w T mg base 9 "add_work" 1 3 bG)
variable (dR:ja P w T mg base 9 "person_names" 0 1 bD)
variable (eX:ja P w T mg base 9 "work_names" 0 1 bJ)
variable (dw:ja P w T mg base 9 "rows_of" 1 2 bA)
variable (cX:ja P w T mg base 9 "hands_of" 1 2 bf)
variable (cW:ja P w T mg base 9 "known_of" 1 2 bc)
variable (fH:ja P w T mg base 9 "rate_list" 0 1 bT)
variable (f_:ja P w T mg base 9 "put_keep" 2 2 bF)
variable (dy:ja P w T mg base 9 "keep_of" 1 2 bB)
variable (gb:ja P w T mg base 9 "put_half" 1 1 bN)
variable (cI:ja P w T mg base 9 "half_days" 0 1 aL)
variable (cq:ja P w T mg base 9 "money_list" 0 2 aH)
variable (cJ:ja P w T mg base 9 "debt_list" 0 2 aM)
variable (js:gK P w T mg base "_law_begin" 1 1 dF)
variable (aW:gK P w T mg base "_law_take" 2 1 aQ)
variable (fS:gK P w T mg base "_law_same" 2 10 (au 9))
variable (iI:gK P w T mg base "_law_lowest" 2 1 cy)
variable (jq:gK P w T mg base "_law_names" 2 2 dE)
variable (km:gK P w T mg base "_law_part" 1 2 dz)
variable (f6:gK P w T mg base "_law_in_order" 1 1 bL)
variable (fZ:gK P w T mg base "_law_names_of" 1 3 b8)
variable (ny:gK P w T mg base "_law_of" 2 2 gM)
variable (kn:gK P w T mg base "_law_deed" 3 3 eM)
variable (i3:gK P w T mg base "_law_do" 2 4 bC)
variable (gY:gK P w T mg base "_law_refusal" 2 5 cM)
variable (jo:gK P w T mg base "_law_world" 0 1 cP)
variable (gZ:gK P w T mg base "_law_due" 2 1 eJ)
variable (f9:gK P w T mg base "_law_all_told" 1 3 bM)
variable (g0:gK P w T mg base "_law_all_due" 1 2 bV)
variable (iH:gK P w T mg base "_law_walked" 6 11 cx)
variable (jr:gK P w T mg base "_law_begun" 2 5 cQ)
variable (f7:gK P w T mg base "_law_asked_of" 3 3 b9)
variable (eW:gK P w T mg base "_law_asks_right" 3 4 bz)
include xs bk bt in
theorem vH (_:M7 T mg "by_days" (top 14) 20):gK P w T mg base "by_days" 1 1 cL:=by
 unfold cL nC
 refine Jb (k:=0) ["rows"] (by with_reducible assumption) ⟨rfl,rfl,rfl,by decide +kernel,rfl,by decide +kernel,by decide +kernel⟩ (by walk_at "b") rfl λ _ _ _ _ _ _ _ hC=>?_
 walk_at "g"
include xs bk bw in
theorem nk (_:M8 T mg 9 "Book" "Book.__init__" (inClass (top 15) 0)):M6 P w T mg base 9 "Book" 1 ao:=by
 unfold ao gw
 refine Jc (k:=0) ["self"] (by with_reducible assumption) ⟨rfl,rfl,rfl,by decide +kernel,rfl,by decide +kernel,by decide +kernel⟩ (by walk_at "b") rfl λ _ _ _ _ _ _ _=>?_
 walk_at "g"
include xs bk in
theorem kU (_:fC T 9 "need_person" "Book.need_person" (inClass (top 15) 1)):ja P w T mg base 9 "need_person" 1 1 aK:=by
 unfold aK cU
 refine c_ (k:=0) ["self","name"] (by with_reducible assumption) ⟨rfl,rfl,rfl,by decide +kernel,rfl,by decide +kernel,by decide +kernel⟩ (by walk_at "b") rfl λ _ _ _ _ _ _ _=>?_
 walk_at "g"
include xs bk in
theorem mj (_:fC T 9 "need_work" "Book.need_work" (inClass (top 15) 2)):ja P w T mg base 9 "need_work" 1 1 aY:=by
 unfold aY dI
 refine c_ (k:=0) ["self","name"] (by with_reducible assumption) ⟨rfl,rfl,rfl,by decide +kernel,rfl,by decide +kernel,by decide +kernel⟩ (by walk_at "b") rfl λ _ _ _ _ _ _ _=>?_
 walk_at "g"
include xs bk in
theorem ng (_:fC T 9 "has_name" "Book.has_name" (inClass (top 15) 3)):ja P w T mg base 9 "has_name" 1 1 b_:=by
 unfold b_ gu
 refine c_ (k:=0) ["self","name"] (by with_reducible assumption) ⟨rfl,rfl,rfl,by decide +kernel,rfl,by decide +kernel,by decide +kernel⟩ (by walk_at "b") rfl λ _ _ _ _ _ _ _=>?_
 walk_at "g"
include xs bk gc in
theorem mn (_:fC T 9 "need_free" "Book.need_free" (inClass (top 15) 4)):ja P w T mg base 9 "need_free" 1 2 aZ:=by
 unfold aZ dJ
 refine c_ (k:=1) ["self","name"] (by with_reducible assumption) ⟨rfl,rfl,rfl,by decide +kernel,rfl,by decide +kernel,by decide +kernel⟩ (by walk_at "b") rfl λ _ _ _ _ _ _ _=>?_
 walk_at "g"
include xs bk fE cH in
theorem lI (_:fC T 9 "add_person" "Book.add_person" (inClass (top 15) 5)):ja P w T mg base 9 "add_person" 1 3 a8:=by
 unfold a8 dj
 refine c_ (k:=2) ["self","name"] (by with_reducible assumption) ⟨rfl,rfl,rfl,by decide +kernel,rfl,by decide +kernel,by decide +kernel⟩ (by walk_at "b") rfl λ _ _ _ _ _ _ _=>?_
 walk_at "g"
include xs bk cH in
theorem nj (_:fC T 9 "add_work" "Book.add_work" (inClass (top 15) 6)):ja P w T mg base 9 "add_work" 1 3 bG:=by
 unfold bG eF
 refine c_ (k:=2) ["self","name"] (by with_reducible assumption) ⟨rfl,rfl,rfl,by decide +kernel,rfl,by decide +kernel,by decide +kernel⟩ (by walk_at "b") rfl λ _ _ _ _ _ _ _=>?_
 walk_at "g"
include xs bk bt in
theorem jY (_:fC T 9 "person_names" "Book.person_names" (inClass (top 15) 7)):ja P w T mg base 9 "person_names" 0 1 bD:=by
 unfold bD dU
 refine c_ (k:=0) ["self"] (by with_reducible assumption) ⟨rfl,rfl,rfl,by decide +kernel,rfl,by decide +kernel,by decide +kernel⟩ (by walk_at "b") rfl λ _ _ _ _ _ _ _=>?_
 walk_at "g"
include xs bk bt in
theorem lG (_:fC T 9 "work_names" "Book.work_names" (inClass (top 15) 8)):ja P w T mg base 9 "work_names" 0 1 bJ:=by
 unfold bJ fc
 refine c_ (k:=0) ["self"] (by with_reducible assumption) ⟨rfl,rfl,rfl,by decide +kernel,rfl,by decide +kernel,by decide +kernel⟩ (by walk_at "b") rfl λ _ _ _ _ _ _ _=>?_
 walk_at "g"
include xs bk cG in
theorem oh (_:fC T 9 "rows_of" "Book.rows_of" (inClass (top 15) 10)):ja P w T mg base 9 "rows_of" 1 2 bA:=by
 unfold bA fe
 refine c_ (k:=1) ["self","work"] (by with_reducible assumption) ⟨rfl,rfl,rfl,by decide +kernel,rfl,by decide +kernel,by decide +kernel⟩ (by walk_at "b") rfl λ _ _ _ _ _ _ _=>?_
 walk_at "g"
include xs bk bt bj in
theorem ni (_:fC T 9 "hands_of" "Book.hands_of" (inClass (top 15) 12)):ja P w T mg base 9 "hands_of" 1 2 bf:=by
 unfold bf eB
 refine c_ (k:=1) ["self","person"] (by with_reducible assumption) ⟨rfl,rfl,rfl,by decide +kernel,rfl,by decide +kernel,by decide +kernel⟩ (by walk_at "b") rfl λ _ _ _ _ _ _ _=>?_
 walk_at "g"
include xs bk cG in
theorem m_ (_:fC T 9 "known_of" "Book.known_of" (inClass (top 15) 14)):ja P w T mg base 9 "known_of" 1 2 bc:=by
 unfold bc eA
 refine c_ (k:=1) ["self","work"] (by with_reducible assumption) ⟨rfl,rfl,rfl,by decide +kernel,rfl,by decide +kernel,by decide +kernel⟩ (by walk_at "b") rfl λ _ _ _ _ _ _ _=>?_
 walk_at "g"
include xs bk bt in
theorem mi (_:fC T 9 "rate_list" "Book.rate_list" (inClass (top 15) 17)):ja P w T mg base 9 "rate_list" 0 1 bT:=by
 unfold bT fI
 refine c_ (k:=0) ["self"] (by with_reducible assumption) ⟨rfl,rfl,rfl,by decide +kernel,rfl,by decide +kernel,by decide +kernel⟩ (by walk_at "b") rfl λ _ _ _ _ _ _ _=>?_
 walk_at "g"
include xs bk bj in
theorem m8 (_:fC T 9 "put_keep" "Book.put_keep" (inClass (top 15) 18)):ja P w T mg base 9 "put_keep" 2 2 bF:=by
 unfold bF d_
 refine c_ (k:=1) ["self","person","part"] (by with_reducible assumption) ⟨rfl,rfl,rfl,by decide +kernel,rfl,by decide +kernel,by decide +kernel⟩ (by walk_at "b") rfl λ _ _ _ _ _ _ _=>?_
 walk_at "g"
include xs bk bj in
theorem oi (_:fC T 9 "keep_of" "Book.keep_of" (inClass (top 15) 19)):ja P w T mg base 9 "keep_of" 1 2 bB:=by
 unfold bB fh
 refine c_ (k:=1) ["self","person"] (by with_reducible assumption) ⟨rfl,rfl,rfl,by decide +kernel,rfl,by decide +kernel,by decide +kernel⟩ (by walk_at "b") rfl λ _ _ _ _ _ _ _=>?_
 walk_at "g"
include xs bk in
theorem m9 (_:fC T 9 "put_half" "Book.put_half" (inClass (top 15) 20)):ja P w T mg base 9 "put_half" 1 1 bN:=by
 unfold bN gq
 refine c_ (k:=0) ["self","days"] (by with_reducible assumption) ⟨rfl,rfl,rfl,by decide +kernel,rfl,by decide +kernel,by decide +kernel⟩ (by walk_at "b") rfl λ _ _ _ _ _ _ _=>?_
 walk_at "g"
include xs bk in
theorem mq (_:fC T 9 "half_days" "Book.half_days" (inClass (top 15) 21)):ja P w T mg base 9 "half_days" 0 1 aL:=by
 unfold aL dM
 refine c_ (k:=0) ["self"] (by with_reducible assumption) ⟨rfl,rfl,rfl,by decide +kernel,rfl,by decide +kernel,by decide +kernel⟩ (by walk_at "b") rfl λ _ _ _ _ _ _ _=>?_
 walk_at "g"
include xs bk iZ in
theorem lH (_:fC T 9 "money_list" "Book.money_list" (inClass (top 15) 24)):ja P w T mg base 9 "money_list" 0 2 aH:=by
 unfold aH di
 refine c_ (k:=1) ["self"] (by with_reducible assumption) ⟨rfl,rfl,rfl,by decide +kernel,rfl,by decide +kernel,by decide +kernel⟩ (by walk_at "b") rfl λ _ _ _ _ _ _ _=>?_
 walk_at "g"
include xs bk iZ in
theorem mr (_:fC T 9 "debt_list" "Book.debt_list" (inClass (top 15) 26)):ja P w T mg base 9 "debt_list" 0 2 aM:=by
 unfold aM dN
 refine c_ (k:=1) ["self"] (by with_reducible assumption) ⟨rfl,rfl,rfl,by decide +kernel,rfl,by decide +kernel,by decide +kernel⟩ (by walk_at "b") rfl λ _ _ _ _ _ _ _=>?_
 walk_at "g"
include xs bk jc in
theorem qv (_:Df T mg "_law_begin" (top 17)):gK P w T mg base "_law_begin" 1 1 dF:=by
 unfold dF jx
 refine cK (k:=0) ["_law_script","_law_cells"] (by with_reducible assumption) ⟨rfl,rfl,rfl,by decide +kernel,rfl,by decide +kernel,by decide +kernel⟩ (by walk_at "b") rfl λ _ _ _ _ _ _ _=>?_
 walk_at "g"
include xs bk gO fN in
theorem sv (_:Df T mg "_law_take" (top 18)):gK P w T mg base "_law_take" 2 1 aQ:=by
 unfold aQ kF
 refine cK (k:=0) ["_law_state","_law_many","_law_turn","_law_place","_law_cell","_law_mixed","_law_digit"] (by with_reducible assumption) ⟨rfl,rfl,rfl,by decide +kernel,rfl,by decide +kernel,by decide +kernel⟩ (by walk_at "b") rfl λ _ _ _ _ _ _ _=>?_
 walk_at "g"
include xs bk oU lr oR bu fN jc oQ jb oP in
theorem sx (_:Df T mg "_law_same" (top 19)):∀ n:Nat,gK P w T mg base "_law_same" 2 (n+1) (au n):=by
 intro n;induction n with
 | zero=>exact E5 ["_law_found","_law_due_here"] (by with_reducible assumption) rfl (by walk_at "b")
 | succ n ih=>
  unfold au dA
  refine cK (k:=n+1) ["_law_found","_law_due_here"] (by with_reducible assumption) ⟨rfl,rfl,rfl,by decide +kernel,rfl,by decide +kernel,by decide +kernel⟩ (by walk_at "b") rfl λ _ _ _ _ _ _ _=>?_
  walk_at "g"
include xs bk oV in
theorem pD (_:Df T mg "_law_lowest" (top 20)):gK P w T mg base "_law_lowest" 2 1 cy:=by
 unfold cy iP
 refine cK (k:=0) ["_law_top","_law_below","_law_sign","_law_one","_law_other"] (by with_reducible assumption) ⟨rfl,rfl,rfl,by decide +kernel,rfl,by decide +kernel,by decide +kernel⟩ (by walk_at "b") rfl λ _ _ _ _ _ _ _=>?_
 walk_at "g"
include xs bk fN dC aW in
theorem qt (_:Df T mg "_law_names" (top 21)):gK P w T mg base "_law_names" 2 2 dE:=by
 unfold dE jv
 refine cK (k:=1) ["_law_state","_law_many","_law_some"] (by with_reducible assumption) ⟨rfl,rfl,rfl,by decide +kernel,rfl,by decide +kernel,by decide +kernel⟩ (by walk_at "b") rfl λ _ _ _ _ _ _ _=>?_
 walk_at "g"
include xs bk aW iI in
theorem sy (_:Df T mg "_law_part" (top 22)):gK P w T mg base "_law_part" 1 2 dz:=by
 unfold dz kG
 refine cK (k:=1) ["_law_state","_law_below"] (by with_reducible assumption) ⟨rfl,rfl,rfl,by decide +kernel,rfl,by decide +kernel,by decide +kernel⟩ (by walk_at "b") rfl λ _ _ _ _ _ _ _=>?_
 walk_at "g"
include xs bk dt bt in
theorem m4 (_:Df T mg "_law_in_order" (top 23)):gK P w T mg base "_law_in_order" 1 1 bL:=by
 unfold bL gm
 refine cK (k:=0) ["_law_some"] (by with_reducible assumption) ⟨rfl,rfl,rfl,by decide +kernel,rfl,by decide +kernel,by decide +kernel⟩ (by walk_at "b") rfl λ _ _ _ _ _ _ _=>?_
 walk_at "g"
include xs bk jq in
theorem m3 (_:Df T mg "_law_names_of" (top 24)):gK P w T mg base "_law_names_of" 1 3 b8:=by
 unfold b8 gh
 refine cK (k:=2) ["_law_state"] (by with_reducible assumption) ⟨rfl,rfl,rfl,by decide +kernel,rfl,by decide +kernel,by decide +kernel⟩ (by walk_at "b") rfl λ _ _ _ _ _ _ _=>?_
 walk_at "g"
include xs bk fN aW in
theorem vI (_:Df T mg "_law_of" (top 25)):gK P w T mg base "_law_of" 2 2 gM:=by
 unfold gM nE
 refine cK (k:=1) ["_law_state","_law_some"] (by with_reducible assumption) ⟨rfl,rfl,rfl,by decide +kernel,rfl,by decide +kernel,by decide +kernel⟩ (by walk_at "b") rfl λ _ _ _ _ _ _ _=>?_
 walk_at "g"
include xs bk aW km ny in
theorem sA (_:Df T mg "_law_deed" (top 26)):gK P w T mg base "_law_deed" 3 3 eM:=by
 unfold eM kH
 refine cK (k:=2) ["_law_state","_law_names_here","_law_word","_law_one"] (by with_reducible assumption) ⟨rfl,rfl,rfl,by decide +kernel,rfl,by decide +kernel,by decide +kernel⟩ (by walk_at "b") rfl λ _ _ _ _ _ _ _=>?_
 walk_at "g"
include xs bk eY gd f_ gb in
theorem vJ (_:Df T mg "_law_do" (top 27)):gK P w T mg base "_law_do" 2 4 bC:=by
 unfold bC dH
 refine cK (k:=3) ["_law_book","_law_deed_here"] (by with_reducible assumption) ⟨rfl,rfl,rfl,by decide +kernel,rfl,by decide +kernel,by decide +kernel⟩ (by walk_at "b") rfl λ _ _ _ _ _ _ _=>?_
 walk_at "g"
include xs bk cN bu fN dC i3 in
theorem oa (_:Df T mg "_law_refusal" (top 28)):gK P w T mg base "_law_refusal" 2 5 cM:=by
 unfold cM hR
 refine cK (k:=4) ["_law_book","_law_deed_here","_law_caught","_law_told","_law_words","error"] (by with_reducible assumption) ⟨rfl,rfl,rfl,by decide +kernel,rfl,by decide +kernel,by decide +kernel⟩ (by walk_at "b") rfl λ _ _ _ _ _ _ _=>?_
 walk_at "g"
include xs bk in
theorem qr (_:Df T mg "_law_world" (top 29)):gK P w T mg base "_law_world" 0 1 cP:=by
 unfold cP ju
 refine cK (k:=0) ["_law_found"] (by with_reducible assumption) ⟨rfl,rfl,rfl,by decide +kernel,rfl,by decide +kernel,by decide +kernel⟩ (by walk_at "b") rfl λ _ _ _ _ _ _ _=>?_
 walk_at "g"
include xs bk in
theorem um (_:Df T mg "_law_due" (top 30)):gK P w T mg base "_law_due" 2 1 eJ:=by
 unfold eJ lV
 refine cK (k:=0) ["_law_world_here","_law_deed_here","_law_people","_law_works"] (by with_reducible assumption) ⟨rfl,rfl,rfl,by decide +kernel,rfl,by decide +kernel,by decide +kernel⟩ (by walk_at "b") rfl λ _ _ _ _ _ _ _=>?_
 walk_at "g"
include xs bk dR eX dw cX cW fH dy cI cq cJ in
theorem m7 (_:Df T mg "_law_all_told" (top 31)):gK P w T mg base "_law_all_told" 1 3 bM:=by
 unfold bM gp
 refine cK (k:=2) ["_law_book","_law_found","_law_works","_law_people"] (by with_reducible assumption) ⟨rfl,rfl,rfl,by decide +kernel,rfl,by decide +kernel,by decide +kernel⟩ (by walk_at "b") rfl λ _ _ _ _ _ _ _=>?_
 walk_at "g"
include xs bk bt f6 in
theorem og (_:Df T mg "_law_all_due" (top 32)):gK P w T mg base "_law_all_due" 1 2 bV:=by
 unfold bV hU
 refine cK (k:=1) ["_law_world_here","_law_found","_law_works","_law_people"] (by with_reducible assumption) ⟨rfl,rfl,rfl,by decide +kernel,rfl,by decide +kernel,by decide +kernel⟩ (by walk_at "b") rfl λ _ _ _ _ _ _ _=>?_
 walk_at "g"
include xs bk fN dC aW fS kn gY gZ f9 g0 in
theorem pC (_:Df T mg "_law_walked" (top 33)):gK P w T mg base "_law_walked" 6 11 cx:=by
 unfold cx iO
 refine cK (k:=10) ["_law_state","_law_book","_law_world_here","_law_names_here","_law_words","_law_many","_law_turn","_law_deed_here","_law_due_here"] (by with_reducible assumption) ⟨rfl,rfl,rfl,by decide +kernel,rfl,by decide +kernel,by decide +kernel⟩ (by walk_at "b") rfl λ _ _ _ _ _ _ _=>?_
 walk_at "g"
include xs bk cY aW i3 jo gZ in
theorem qu (_:Df T mg "_law_begun" (top 34)):gK P w T mg base "_law_begun" 2 5 cQ:=by
 unfold cQ jw
 refine cK (k:=4) ["_law_state","_law_names_here","_law_name","_law_book","_law_world_here","_law_deed_here"] (by with_reducible assumption) ⟨rfl,rfl,rfl,by decide +kernel,rfl,by decide +kernel,by decide +kernel⟩ (by walk_at "b") rfl λ _ _ _ _ _ _ _=>?_
 walk_at "g"
include xs bk bu dw cX cW dy in
theorem m5 (_:Df T mg "_law_asked_of" (top 35)):gK P w T mg base "_law_asked_of" 3 3 b9:=by
 unfold b9 gn
 refine cK (k:=2) ["_law_book","_law_way","_law_name","_law_caught","error"] (by with_reducible assumption) ⟨rfl,rfl,rfl,by decide +kernel,rfl,by decide +kernel,by decide +kernel⟩ (by walk_at "b") rfl λ _ _ _ _ _ _ _=>?_
 walk_at "g"
include xs bk dC f7 in
theorem lF (_:Df T mg "_law_asks_right" (top 36)):gK P w T mg base "_law_asks_right" 3 4 bz:=by
 unfold bz e_
 refine cK (k:=3) ["_law_book","_law_world_here","_law_names_here","_law_name","_law_way","_law_there"] (by with_reducible assumption) ⟨rfl,rfl,rfl,by decide +kernel,rfl,by decide +kernel,by decide +kernel⟩ (by walk_at "b") rfl λ _ _ _ _ _ _ _=>?_
 walk_at "g"
include xs bk cY cI cq cJ js aW fS fZ iH jr eW in
theorem Hz {f:Addr}{fd:FuncData}(F:Cc T.K "law" "law" (top 37) f fd):gy P w T.K mg base (nF P w) 12 f fd ["_law_script"] (yM T 1 p8):=by
 unfold p8 B'
 have S:iD ["_law_script","_law_state","_law_names_here","_law_words","_law_book","_law_world_here"] ["_law_script"] (ax (top 37)):=⟨rfl,rfl,rfl,by decide +kernel,rfl,by decide +kernel,by decide +kernel⟩
 refine sT (k:=11) F S λ dG A outer s H E hr=>?_
 have nd:=S.nd
 have ls:Ls T (jG (nF P w) P w T.K mg base ["_law_script","_law_state","_law_names_here","_law_words","_law_book","_law_world_here"] "law" (ax (top 37)) f dG A outer s H E) (kZ T E):=uy
 have uE:=FO hr;have hu:=LA hr;walk_at "q"
end
theorem Jn {P:Program}{w:World}{T:Tx}{mg:Str->Option Value}{base:Heap}(xs:Xs T mg)(bk:Bk T 9 ["keeps","rows","hands","makers","rates","half","money","debts"])(cN:mg "ValueError"=none)(oV:mg "abs"=none)(oU:mg "all"=none)(lr:mg "bool"=none)(gO:mg "divmod"=none)(dt:mg "enumerate"=none)(oR:mg "int"=none)(bu:mg "isinstance"=none)(fN:mg "len"=none)(jc:mg "list"=none)(dC:mg "range"=none)(bt:mg "sorted"=none)(oQ:mg "str"=none)(jb:mg "tuple"=none)(oP:mg "zip"=none)(bw:Cz T mg "FIRST_HALF_DAYS" ck)(fE:Cz T mg "NOTHING" kM)(d0:M7 T mg "by_days" (top 14) 20) (d1:M8 T mg 9 "Book" "Book.__init__" (inClass (top 15) 0)) (d2:fC T 9 "need_person" "Book.need_person" (inClass (top 15) 1)) (d3:fC T 9 "need_work" "Book.need_work" (inClass (top 15) 2)) (d4:fC T 9 "has_name" "Book.has_name" (inClass (top 15) 3)) (d5:fC T 9 "need_free" "Book.need_free" (inClass (top 15) 4)) (d6:fC T 9 "add_person" "Book.add_person" (inClass (top 15) 5)) (d7:fC T 9 "add_work" "Book.add_work" (inClass (top 15) 6)) (d8:fC T 9 "person_names" "Book.person_names" (inClass (top 15) 7)) (d9:fC T 9 "work_names" "Book.work_names" (inClass (top 15) 8)) (MP:fC T 9 "rows_of" "Book.rows_of" (inClass (top 15) 10)) (MO:fC T 9 "hands_of" "Book.hands_of" (inClass (top 15) 12)) (MN:fC T 9 "known_of" "Book.known_of" (inClass (top 15) 14)) (MM:fC T 9 "rate_list" "Book.rate_list" (inClass (top 15) 17)) (ML:fC T 9 "put_keep" "Book.put_keep" (inClass (top 15) 18)) (MK:fC T 9 "keep_of" "Book.keep_of" (inClass (top 15) 19)) (MJ:fC T 9 "put_half" "Book.put_half" (inClass (top 15) 20)) (MI:fC T 9 "half_days" "Book.half_days" (inClass (top 15) 21)) (MH:fC T 9 "money_list" "Book.money_list" (inClass (top 15) 24)) (MG:fC T 9 "debt_list" "Book.debt_list" (inClass (top 15) 26)) (MF:Df T mg "_law_begin" (top 17)) (ME:Df T mg "_law_take" (top 18)) (MD:Df T mg "_law_same" (top 19)) (MC:Df T mg "_law_lowest" (top 20)) (MB:Df T mg "_law_names" (top 21)) (MA:Df T mg "_law_part" (top 22)) (Mz:Df T mg "_law_in_order" (top 23)) (My:Df T mg "_law_names_of" (top 24)) (Mx:Df T mg "_law_of" (top 25)) (Mw:Df T mg "_law_deed" (top 26)) (Mv:Df T mg "_law_do" (top 27)) (Mu:Df T mg "_law_refusal" (top 28)) (Mr:Df T mg "_law_world" (top 29)) (Mq:Df T mg "_law_due" (top 30)) (Mp:Df T mg "_law_all_told" (top 31)) (Mo:Df T mg "_law_all_due" (top 32)) (Mn:Df T mg "_law_walked" (top 33)) (Ml:Df T mg "_law_begun" (top 34)) (Mj:Df T mg "_law_asked_of" (top 35)) (Mi:Df T mg "_law_asks_right" (top 36)) (Mh:Df T mg "law" (top 37)) {f:Addr}{fd:FuncData}(F:Cc T.K "law" "law" (top 37) f fd) :
  gy P w T.K mg base (nF P w) 12 f fd ["_law_script"] (yM T 1 p8):=by
 have iZ:=vH (P:=P) (w:=w) (base:=base) xs bk bt d0
 have cY:=nk (P:=P) (w:=w) (base:=base) xs bk bw d1
 have bj:=kU (P:=P) (w:=w) (base:=base) xs bk d2
 have cG:=mj (P:=P) (w:=w) (base:=base) xs bk d3
 have gc:=ng (P:=P) (w:=w) (base:=base) xs bk d4
 have cH:=mn (P:=P) (w:=w) (base:=base) xs bk gc d5
 have eY:=lI (P:=P) (w:=w) (base:=base) xs bk fE cH d6
 have gd:=nj (P:=P) (w:=w) (base:=base) xs bk cH d7
 have dR:=jY (P:=P) (w:=w) (base:=base) xs bk bt d8
 have eX:=lG (P:=P) (w:=w) (base:=base) xs bk bt d9
 have dw:=oh (P:=P) (w:=w) (base:=base) xs bk cG MP
 have cX:=ni (P:=P) (w:=w) (base:=base) xs bk bt bj MO
 have cW:=m_ (P:=P) (w:=w) (base:=base) xs bk cG MN
 have fH:=mi (P:=P) (w:=w) (base:=base) xs bk bt MM
 have f_:=m8 (P:=P) (w:=w) (base:=base) xs bk bj ML
 have dy:=oi (P:=P) (w:=w) (base:=base) xs bk bj MK
 have gb:=m9 (P:=P) (w:=w) (base:=base) xs bk MJ
 have cI:=mq (P:=P) (w:=w) (base:=base) xs bk MI
 have cq:=lH (P:=P) (w:=w) (base:=base) xs bk iZ MH
 have cJ:=mr (P:=P) (w:=w) (base:=base) xs bk iZ MG
 have js:=qv (P:=P) (w:=w) (base:=base) xs bk jc MF
 have aW:=sv (P:=P) (w:=w) (base:=base) xs bk gO fN ME
 have fS:=sx (P:=P) (w:=w) (base:=base) xs bk oU lr oR bu fN jc oQ jb oP MD 9
 have iI:=pD (P:=P) (w:=w) (base:=base) xs bk oV MC
 have jq:=qt (P:=P) (w:=w) (base:=base) xs bk fN dC aW MB
 have km:=sy (P:=P) (w:=w) (base:=base) xs bk aW iI MA
 have f6:=m4 (P:=P) (w:=w) (base:=base) xs bk dt bt Mz
 have fZ:=m3 (P:=P) (w:=w) (base:=base) xs bk jq My
 have ny:=vI (P:=P) (w:=w) (base:=base) xs bk fN aW Mx
 have kn:=sA (P:=P) (w:=w) (base:=base) xs bk aW km ny Mw
 have i3:=vJ (P:=P) (w:=w) (base:=base) xs bk eY gd f_ gb Mv
 have gY:=oa (P:=P) (w:=w) (base:=base) xs bk cN bu fN dC i3 Mu
 have jo:=qr (P:=P) (w:=w) (base:=base) xs bk Mr
 have gZ:=um (P:=P) (w:=w) (base:=base) xs bk Mq
 have f9:=m7 (P:=P) (w:=w) (base:=base) xs bk dR eX dw cX cW fH dy cI cq cJ Mp
 have g0:=og (P:=P) (w:=w) (base:=base) xs bk bt f6 Mo
 have iH:=pC (P:=P) (w:=w) (base:=base) xs bk fN dC aW fS kn gY gZ f9 g0 Mn
 have jr:=qu (P:=P) (w:=w) (base:=base) xs bk cY aW i3 jo gZ Ml
 have f7:=m5 (P:=P) (w:=w) (base:=base) xs bk bu dw cX cW dy Mj
 have eW:=lF (P:=P) (w:=w) (base:=base) xs bk dC f7 Mi
 exact Hz xs bk cY cI cq cJ js aW fS fZ iH jr eW F
theorem Jd {l:PySem.W.OpenLaw}{w:World}{K:PySem.W.Frag}{h:Heap}{mg:Str->Option Value}{fa c0 c1 c2 c3 c4 c5 c6 c7 c8 cB t0:Addr}{i7 i8:Option Value}(X:K.In h)(G:h.Ns mainGlobals mg)(Pt:mg "law"=some (.ref fa)) (x0:tI K mg c0 "RoyalError" oK none)(x1:tI K mg c1 "BadFraction" (.ref c0 :: oK) none) (x2:tI K mg c2 "Taken" (.ref c0 :: oK) none) (x3:tI K mg c3 "NoName" (.ref c0 :: oK) none) (x4:tI K mg c4 "TooMuch" (.ref c0 :: oK) none) (x5:tI K mg c5 "NoRate" (.ref c0 :: oK) none) (x6:tI K mg c6 "NoneLeft" (.ref c0 :: oK) none) (x7:tI K mg c7 "Endless" (.ref c0 :: oK) i7) (x8:tI K mg c8 "BadRow" (.ref c0 :: oK) i8) (b:NP K cB ["keeps","rows","hands","makers","rates","half","money","debts"])(cN:PySem.W.nsIn K mainGlobals "ValueError"=some none)(oV:PySem.W.nsIn K mainGlobals "abs"=some none)(oU:PySem.W.nsIn K mainGlobals "all"=some none)(lr:PySem.W.nsIn K mainGlobals "bool"=some none)(gO:PySem.W.nsIn K mainGlobals "divmod"=some none)(dt:PySem.W.nsIn K mainGlobals "enumerate"=some none)(oR:PySem.W.nsIn K mainGlobals "int"=some none)(bu:PySem.W.nsIn K mainGlobals "isinstance"=some none)(fN:PySem.W.nsIn K mainGlobals "len"=some none)(jc:PySem.W.nsIn K mainGlobals "list"=some none)(dC:PySem.W.nsIn K mainGlobals "range"=some none)(bt:PySem.W.nsIn K mainGlobals "sorted"=some none)(oQ:PySem.W.nsIn K mainGlobals "str"=some none)(jb:PySem.W.nsIn K mainGlobals "tuple"=some none)(oP:PySem.W.nsIn K mainGlobals "zip"=some none)(bw:Cz ⟨K,cu [c0,c1,c2,c3,c4,c5,c6,c7,c8,cB] [t0]⟩ mg "FIRST_HALF_DAYS" ck)(fE:Cz ⟨K,cu [c0,c1,c2,c3,c4,c5,c6,c7,c8,cB] [t0]⟩ mg "NOTHING" kM)(d0:M7 ⟨K,cu [c0,c1,c2,c3,c4,c5,c6,c7,c8,cB] [t0]⟩ mg "by_days" (top 14) 20) (d1:M8 ⟨K,cu [c0,c1,c2,c3,c4,c5,c6,c7,c8,cB] [t0]⟩ mg 9 "Book" "Book.__init__" (inClass (top 15) 0)) (d2:fC ⟨K,cu [c0,c1,c2,c3,c4,c5,c6,c7,c8,cB] [t0]⟩ 9 "need_person" "Book.need_person" (inClass (top 15) 1)) (d3:fC ⟨K,cu [c0,c1,c2,c3,c4,c5,c6,c7,c8,cB] [t0]⟩ 9 "need_work" "Book.need_work" (inClass (top 15) 2)) (d4:fC ⟨K,cu [c0,c1,c2,c3,c4,c5,c6,c7,c8,cB] [t0]⟩ 9 "has_name" "Book.has_name" (inClass (top 15) 3)) (d5:fC ⟨K,cu [c0,c1,c2,c3,c4,c5,c6,c7,c8,cB] [t0]⟩ 9 "need_free" "Book.need_free" (inClass (top 15) 4)) (d6:fC ⟨K,cu [c0,c1,c2,c3,c4,c5,c6,c7,c8,cB] [t0]⟩ 9 "add_person" "Book.add_person" (inClass (top 15) 5)) (d7:fC ⟨K,cu [c0,c1,c2,c3,c4,c5,c6,c7,c8,cB] [t0]⟩ 9 "add_work" "Book.add_work" (inClass (top 15) 6)) (d8:fC ⟨K,cu [c0,c1,c2,c3,c4,c5,c6,c7,c8,cB] [t0]⟩ 9 "person_names" "Book.person_names" (inClass (top 15) 7)) (d9:fC ⟨K,cu [c0,c1,c2,c3,c4,c5,c6,c7,c8,cB] [t0]⟩ 9 "work_names" "Book.work_names" (inClass (top 15) 8)) (MP:fC ⟨K,cu [c0,c1,c2,c3,c4,c5,c6,c7,c8,cB] [t0]⟩ 9 "rows_of" "Book.rows_of" (inClass (top 15) 10)) (MO:fC ⟨K,cu [c0,c1,c2,c3,c4,c5,c6,c7,c8,cB] [t0]⟩ 9 "hands_of" "Book.hands_of" (inClass (top 15) 12)) (MN:fC ⟨K,cu [c0,c1,c2,c3,c4,c5,c6,c7,c8,cB] [t0]⟩ 9 "known_of" "Book.known_of" (inClass (top 15) 14)) (MM:fC ⟨K,cu [c0,c1,c2,c3,c4,c5,c6,c7,c8,cB] [t0]⟩ 9 "rate_list" "Book.rate_list" (inClass (top 15) 17)) (ML:fC ⟨K,cu [c0,c1,c2,c3,c4,c5,c6,c7,c8,cB] [t0]⟩ 9 "put_keep" "Book.put_keep" (inClass (top 15) 18)) (MK:fC ⟨K,cu [c0,c1,c2,c3,c4,c5,c6,c7,c8,cB] [t0]⟩ 9 "keep_of" "Book.keep_of" (inClass (top 15) 19)) (MJ:fC ⟨K,cu [c0,c1,c2,c3,c4,c5,c6,c7,c8,cB] [t0]⟩ 9 "put_half" "Book.put_half" (inClass (top 15) 20)) (MI:fC ⟨K,cu [c0,c1,c2,c3,c4,c5,c6,c7,c8,cB] [t0]⟩ 9 "half_days" "Book.half_days" (inClass (top 15) 21)) (MH:fC ⟨K,cu [c0,c1,c2,c3,c4,c5,c6,c7,c8,cB] [t0]⟩ 9 "money_list" "Book.money_list" (inClass (top 15) 24)) (MG:fC ⟨K,cu [c0,c1,c2,c3,c4,c5,c6,c7,c8,cB] [t0]⟩ 9 "debt_list" "Book.debt_list" (inClass (top 15) 26)) (MF:Df ⟨K,cu [c0,c1,c2,c3,c4,c5,c6,c7,c8,cB] [t0]⟩ mg "_law_begin" (top 17)) (ME:Df ⟨K,cu [c0,c1,c2,c3,c4,c5,c6,c7,c8,cB] [t0]⟩ mg "_law_take" (top 18)) (MD:Df ⟨K,cu [c0,c1,c2,c3,c4,c5,c6,c7,c8,cB] [t0]⟩ mg "_law_same" (top 19)) (MC:Df ⟨K,cu [c0,c1,c2,c3,c4,c5,c6,c7,c8,cB] [t0]⟩ mg "_law_lowest" (top 20)) (MB:Df ⟨K,cu [c0,c1,c2,c3,c4,c5,c6,c7,c8,cB] [t0]⟩ mg "_law_names" (top 21)) (MA:Df ⟨K,cu [c0,c1,c2,c3,c4,c5,c6,c7,c8,cB] [t0]⟩ mg "_law_part" (top 22)) (Mz:Df ⟨K,cu [c0,c1,c2,c3,c4,c5,c6,c7,c8,cB] [t0]⟩ mg "_law_in_order" (top 23)) (My:Df ⟨K,cu [c0,c1,c2,c3,c4,c5,c6,c7,c8,cB] [t0]⟩ mg "_law_names_of" (top 24)) (Mx:Df ⟨K,cu [c0,c1,c2,c3,c4,c5,c6,c7,c8,cB] [t0]⟩ mg "_law_of" (top 25)) (Mw:Df ⟨K,cu [c0,c1,c2,c3,c4,c5,c6,c7,c8,cB] [t0]⟩ mg "_law_deed" (top 26)) (Mv:Df ⟨K,cu [c0,c1,c2,c3,c4,c5,c6,c7,c8,cB] [t0]⟩ mg "_law_do" (top 27)) (Mu:Df ⟨K,cu [c0,c1,c2,c3,c4,c5,c6,c7,c8,cB] [t0]⟩ mg "_law_refusal" (top 28)) (Mr:Df ⟨K,cu [c0,c1,c2,c3,c4,c5,c6,c7,c8,cB] [t0]⟩ mg "_law_world" (top 29)) (Mq:Df ⟨K,cu [c0,c1,c2,c3,c4,c5,c6,c7,c8,cB] [t0]⟩ mg "_law_due" (top 30)) (Mp:Df ⟨K,cu [c0,c1,c2,c3,c4,c5,c6,c7,c8,cB] [t0]⟩ mg "_law_all_told" (top 31)) (Mo:Df ⟨K,cu [c0,c1,c2,c3,c4,c5,c6,c7,c8,cB] [t0]⟩ mg "_law_all_due" (top 32)) (Mn:Df ⟨K,cu [c0,c1,c2,c3,c4,c5,c6,c7,c8,cB] [t0]⟩ mg "_law_walked" (top 33)) (Ml:Df ⟨K,cu [c0,c1,c2,c3,c4,c5,c6,c7,c8,cB] [t0]⟩ mg "_law_begun" (top 34)) (Mj:Df ⟨K,cu [c0,c1,c2,c3,c4,c5,c6,c7,c8,cB] [t0]⟩ mg "_law_asked_of" (top 35)) (Mi:Df ⟨K,cu [c0,c1,c2,c3,c4,c5,c6,c7,c8,cB] [t0]⟩ mg "_law_asks_right" (top 36)) (Mh:Df ⟨K,cu [c0,c1,c2,c3,c4,c5,c6,c7,c8,cB] [t0]⟩ mg "law" (top 37)):∃ fd:FuncData,(∀ (s:Shared) (v:Value),BindsTo s fd ⟨[v],[]⟩ [("_law_script",v)])/\∀ base:Heap,K.In base->base.Ns mainGlobals mg->gy l.prog w K mg base (nF l.prog w) 12 fa fd ["_law_script"] (spT K [t0] [(20,"by_days.<locals>.<lambda>")] p8):=
 E7 Pt rfl Mh (λ _ _ _ _ _ _ _ _=>.of_eq rfl) λ base f fd F=>Jn (JO x0 x1 x2 x3 x4 x5 x6 x7 x8) (b.bk rfl) (PySem.W.mg_none_of X G cN) (PySem.W.mg_none_of X G oV) (PySem.W.mg_none_of X G oU) (PySem.W.mg_none_of X G lr) (PySem.W.mg_none_of X G gO) (PySem.W.mg_none_of X G dt) (PySem.W.mg_none_of X G oR) (PySem.W.mg_none_of X G bu) (PySem.W.mg_none_of X G fN) (PySem.W.mg_none_of X G jc) (PySem.W.mg_none_of X G dC) (PySem.W.mg_none_of X G bt) (PySem.W.mg_none_of X G oQ) (PySem.W.mg_none_of X G jb) (PySem.W.mg_none_of X G oP) bw fE d0 d1 d2 d3 d4 d5 d6 d7 d8 d9 MP MO MN MM ML MK MJ MI MH MG MF ME MD MC MB MA Mz My Mx Mw Mv Mu Mr Mq Mp Mo Mn Ml Mj Mi Mh F
end Ro
namespace Ro
open PySem L2
end Ro
namespace L2
open PySem PySem.Spec PyProof.Rows
end L2
namespace Ro
open PySem L2
end Ro
namespace Ro
open PySem L2
abbrev Fs:=List (Int × Int)
def den:Fs->Int
 | []=>1
 | f :: r=>f.2 * den r
def num:Fs->Int
 | []=>0
 | f :: r=>f.1 * den r+f.2 * num r
def Qe (fs:Fs):Prop:=∀ f∈fs,1<=f.2
theorem den_pos:∀ {fs:Fs},Qe fs->1<=den fs
 | [],_=>by decide
 | f :: r,h=>by
  have h1:1<=f.2:=h f List.mem_cons_self
  have h2:=den_pos (fs:=r) λ g hg=>h g (List.mem_cons_of_mem _ hg)
  show 1<=f.2 * den r
  have:=Int.mul_pos (show 0 < f.2 by omega) (show 0 < den r by omega)
  omega
end Ro
namespace Ro
open PySem L2
abbrev ig (a b:Int):Int:=((Int.gcd a b:Nat):Int)
end Ro
namespace Ro
open PySem L2 Mm
def fq (q:Rat):AV:=.tup [.int q.num,.int q.den]
theorem C8 (q:Rat):Int.gcd q.num (q.den:Int)=1:=q.reduced
theorem C7 (q:Rat):(1:Int)<=(q.den:Int):=by have:=q.den_pos;omega
theorem BA {t b:Int}(h:b≠0):fr t b=((Rat.divInt t b).num,((Rat.divInt t b).den:Int)):=by
 refine E2 h (C7 _) (C8 _) ?_
 have e:=Rat.num_divInt_den (Rat.divInt t b)
 have:=(Rat.divInt_eq_divInt_iff (by have:=(Rat.divInt t b).den_pos;omega) h).mp e
 exact this
structure Sz (n:Nat)(q:Rat):Prop where
 a:eQ n q.num
 b:eQ n (q.den:Int)
theorem L9 {t b:Int}{n:Nat}(h:b≠0)(ft:eQ n t)(fb:eQ n b):Sz n (Rat.divInt t b):=by
 have e:=BA (t:=t) h
 have e1:(fr t b).1=(Rat.divInt t b).num:=by rw[e]
 have e2:(fr t b).2=((Rat.divInt t b).den:Int):=by rw[e]
 have g:=IZ (t:=t) h
 refine⟨?_,?_⟩
 ·rw[<-e1]
  have h1:=I_ t b
  refine ft.le ?_
  have:t.natAbs=(fr t b).1.natAbs * (pW t b).natAbs:=by rw[<-Int.natAbs_mul,h1]
  rw[this]
  exact Nat.le_mul_of_pos_right _ (by omega)
 ·rw[<-e2]
  have h1:=E3 t b
  refine fb.le ?_
  have:b.natAbs=(fr t b).2.natAbs * (pW t b).natAbs:=by rw[<-Int.natAbs_mul,h1]
  rw[this]
  exact Nat.le_mul_of_pos_right _ (by omega)
theorem wc {n:Nat}{i:Int}(h:eQ n i)(k:n<=60000000):CA i:=⟨h.mono k⟩
theorem A0 {n:Nat}{i:Int}(h:eQ n i)(k:n<=9000):Jt i:=⟨h.mono k⟩
theorem E4 {x y:Int}(hx:0<=x)(hy:0 < y):0<=x.fmod y/\x.fmod y < y:=by
 rw[Int.fmod_eq_emod_of_nonneg _ (by omega)]
 exact⟨Int.emod_nonneg _ (by omega),Int.emod_lt_of_pos _ hy⟩
theorem EH {x y:Int}(hy:0 < y):ig y (x.fmod y)=ig x y:=by
 rw[Int.fmod_eq_emod_of_nonneg _ (by omega)]
 show((Int.gcd y (x % y):Nat):Int)=((Int.gcd x y:Nat):Int)
 congr 1
 rw[Int.gcd_comm]
 have h1:=Int.emod_def x y
 rw[h1,Int.gcd_sub_mul_left_left]
theorem II (a b:Int):ig (if a < 0 then -a else a) (if b < 0 then -b else b)=ig a b:=by
 show((Int.gcd _ _:Nat):Int)=((Int.gcd a b:Nat):Int)
 congr 1
 split<;>split<;>simp[Int.gcd_neg,Int.neg_gcd]
theorem Lu {a b:Int}(h:b≠0):ig a b≠0:=by have:=mJ (t:=a) h;show((Int.gcd a b:Nat):Int)≠0;omega
theorem BG {a b:Int}{n:Nat}(h:b≠0)(f:eQ n b):eQ n (ig a b):=f.le (by
 show((Int.gcd a b:Nat):Int).natAbs<=_
 rw[Int.natAbs_natCast]
 exact Nat.le_of_dvd (by omega) (Int.gcd_dvd_natAbs_right a b))
theorem aF (s:S)(xs:List AV):ak (s++[.lst xs]) s.length=some xs:=by
 unfold ak;simp
end Ro
namespace Mm
open PySem L2
mutual
theorem AV.low.mono {b c:Nat}(h:b<=c):∀ {v:AV},v.low b=true->v.low c=true
 | .ref i,k=>by simp only[AV.low,decide_eq_true_eq]at k ⊢;omega
 | .tup xs,k=>by simp only[AV.low]at k ⊢;exact aR.mono h k
 | .sq xs,k=>by simp only[AV.low]at k ⊢;exact aR.mono h k
 | .aC,_=>by simp only[AV.low]
 | .bl _,_=>by simp only[AV.low]
 | .int _,_=>by simp only[AV.low]
 | .str _,_=>by simp only[AV.low]
theorem aR.mono {b c:Nat}(h:b<=c):∀ {l:List AV},aR b l=true->aR c l=true
 | [],_=>by simp only[aR]
 | v :: r,k=>by
  simp only[aR,Bool.and_eq_true]at k ⊢
  exact⟨AV.low.mono h k.1,aR.mono h k.2⟩
end
theorem AO.low.mono {b c:Nat}(h:b<=c){o:AO}(k:o.low b=true):o.low c=true:=by
 cases o<;>first|exact aR.mono h k|rfl
def Cl (s:S):Prop:=s.all (AO.low s.length)=true
theorem Cl.add {s e:S}(h:Cl s)(k:e.all (AO.low (s.length+e.length))=true):Cl (s++e):=by
 unfold Cl at *
 rw[List.all_append,List.length_append,k,Bool.and_true]
 rw[List.all_eq_true]at h ⊢
 exact λ o ho=>AO.low.mono (by omega) (h o ho)
theorem Cl.set {s:S}{i:Nat}{o:AO}(h:Cl s)(k:o.low s.length=true):Cl (s.set i o):=by
 unfold Cl at *
 rw[List.length_set]
 rw[List.all_eq_true]at h ⊢
 intro x hx
 rcases List.mem_or_eq_of_mem_set hx with hx|rfl
 ·exact h x hx
 ·exact k
theorem ai {s e:S}{k:Nat}{xs:List AV}(h:ak s k=some xs):ak (s++e) k=some xs:=by
 have:=aB h
 refine cD ?_
 have hk:k < s.length:=(List.getElem?_eq_some_iff.mp this).1
 rw[List.getElem?_append_left hk];exact this
theorem B1 {st:S}{i j:Nat}{xs ys:List AV}(h1:ak st i=some xs)(h2:ak st j=some ys)(hl:xs.length+ys.length<=sizeLine):du (.ref i) (.ref j) st=.ok (.ref st.length) (st++[.lst (xs++ys)]):=by
 show(need (ak st i) λ xs=>need (ak st j) λ ys=>if xs.length+ys.length<=sizeLine then R.ok (AV.ref st.length) (st++[.lst (xs++ys)]) else .bad)=_
 rw[h1,aq,h2,aq,if_pos hl]
end Mm
namespace Ro
open PySem L2 Mm
end Ro
namespace Mm
open PySem L2
end Mm
namespace Ro
open PySem L2 Mm
theorem xY (l:List Str):(av l).length=l.length:=(gU l).length_eq
theorem uz (A B C:Option AV):∀ (n:Nat) (x y:Int) (s:S),0<=x->0<=y->y.natAbs < n->
  Cf (cB (ag vG (mv 4) (mc (.int 0)))) (n9 3 4 (aa (mv 4) (aa (ag h_ (mv 3) (mv 4)) ae))) n [A,B,C,some (.int x),some (.int y)] s=.nx [A,B,C,some (.int (ig x y)),some (.int 0)] s
 | 0,_,_,_,_,_,h=>absurd h (Nat.not_lt_zero _)
 | n+1,x,y,s,hx,hy,h=>by
  unfold Cf
  have e:cB (ag vG (mv 4) (mc (.int 0))) [A,B,C,some (.int x),some (.int y)] s=.ok (decide (0 < y)) s:=rfl
  rw[e,i9]
  by_cases h0:y=0
  ·subst h0
   rw[if_neg (by simp)]
   rw[show ig x 0=x by show((Int.gcd x 0:Nat):Int)=x;rw[Int.gcd_zero_right];omega]
  ·have O7:0 < y:=by omega
   obtain⟨m1,m2⟩:=E4 hx O7
   rw[if_pos (by simpa using O7)]
   have e2:n9 3 4 (aa (mv 4) (aa (ag h_ (mv 3) (mv 4)) ae)) [A,B,C,some (.int x),some (.int y)] s=.nx [A,B,C,some (.int y),some (.int (x.fmod y))] s:=by
    have e3:h_ (.int x) (.int y) s=.ok (.int (x.fmod y)) s:=if_pos h0
    show((h_ (.int x) (.int y) s).bind _ |>.bind _).dO _=_
    rw[e3];rfl
   rw[e2]
   show Cf _ _ n _ s=_
   rw[uz A B C n y (x.fmod y) s hy m1 (by omega),EH O7]
theorem Bz (A B C X:Option AV)(y:Int):FY [A,B,C,X,some (.int y)]=y.natAbs+1:=rfl
theorem yi {a b:Int}(s:S)(h:b≠0)(fb:eQ 9000 b)(fa:eQ 60000000 a):cy [.int a,.int b] s=.ok (fq (Rat.divInt a b)) s:=by
 have e:=(Ir a b h).trans (BA (t:=a) h)
 have e1:((if b < 0 then -1 else 1) * a).fdiv (ig a b)=(Rat.divInt a b).num:=congrArg Prod.fst e
 have e2:((if b < 0 then -1 else 1) * b).fdiv (ig a b)=((Rat.divInt a b).den:Int):=congrArg Prod.snd e
 have g:=Lu (a:=a) h
 have fg:Jt (ig a b):=A0 (BG h fb) (Nat.le_refl _)
 have bs:∀ c:Prop,[Decidable c]->CA (if c then -1 else 1):=λ c _=>by
  split
  ·exact wc (n:=1) (by show(-1:Int).natAbs < 2 ^ 1;decide) (by decide)
  ·exact wc (n:=1) (by show(1:Int).natAbs < 2 ^ 1;decide) (by decide)
 have bb:CA b:=⟨fb.mono (by decide)⟩
 have ba:CA a:=⟨fa⟩
 apply R.wp.eq
 unfold cy iP
 simp only[↓WS,↓WE,↓WV,Lq,af,UU,Nat.reduceSub,↓reduceIte,↓Gm,Bz]
 rw[qg (uz _ _ _ _ _ _ s (by split<;>omega) (by split<;>omega) (Nat.lt_succ_self _)),II]
 walk_at "w"
 by_cases c:b < 0
 ·simp only[c,if_true]at e1 e2 ⊢
  have b1:=bs True
  rw[if_pos trivial]at b1
  refine⟨⟨b1,ba⟩,⟨g,fg⟩,⟨b1,bb⟩,⟨g,fg⟩,?_⟩
  rw[e1,e2];rfl
 ·simp only[c,if_false]at e1 e2 ⊢
  have b1:=bs False
  rw[if_neg (λ z=>z)]at b1
  refine⟨⟨b1,ba⟩,⟨g,fg⟩,⟨b1,bb⟩,⟨g,fg⟩,?_⟩
  rw[e1,e2];rfl
end Ro
namespace Mm
open PySem L2
theorem oX (a:Mt)(r:xM)(v:AV)(w:List AV)(env:En)(s:S)(N:En->S->Prop)(T:AV->S->Prop):(aU a r (v :: w) env s).wp N T=(a v env s).wp (λ e s1=>(r w e s1).wp N T) T:=by
 show(match a v env s with|.nx e s1=>r w e s1|q=>q).wp N _=_
 cases a v env s<;>rfl
theorem ze (o i:Ev)(v:AV)(env:En)(s:S)(N:En->S->Prop)(T:AV->S->Prop):(kq o i v env s).wp N T=(o env s).wp λ a s1=>(i env s1).wp λ b s2=>(match a,b with
 | .ref k,.int j=>match ak s2 k with
  | some xs=>match w6 xs.length j with
   | some n=>RS.nx env (s2.set k (.lst (xs.set n v)))
   | none=>.bad
  | none=>.bad
 | _,_=>.bad).wp N T:=by
 unfold kq;rw[bU];congr 1;funext a s1;rw[bU]
 try rfl
end Mm
namespace Ro
open PySem L2 Mm
theorem Ll:¬ ((.inr "cells":Key)=.inr "turn"):=λ z=>RY (Sum.inr.inj z)
def sV (c:Nat)(t:Int):List (Key × AV):=[(.inr "cells",.ref c),(.inr "turn",.int t)]
theorem BP (c:Nat)(t:Int):aV (sV c t) (.inr "cells")=some (.ref c):=if_pos rfl
theorem E_ (c:Nat)(t:Int):aV (sV c t) (.inr "turn")=some (.int t):=by
 unfold sV aV
 rw[if_neg Ll]
 exact if_pos rfl
theorem Je (c:Nat)(t u:Int):eO (sV c t) (.inr "turn") (.int u)=sV c u:=by
 unfold eO sV
 rw[if_pos (by simp)]
 simp only[List.map_cons,List.map_nil,if_neg Ll,if_true]
structure Dr (c d n:Nat)(s:S):Prop where
 ex:∃ (t:Int) (cells:List Int),s[d]? = some (.dK (sV c t))/\s[c]? = some (.lst (cells.map AV.int))/\cells≠[]/\0<=t/\t<=n
 cl:Cl s
structure Kp (c d:Nat)(s s':S):Prop where
 len:s'.length=s.length
 get:∀ i,i≠c->i≠d->s'[i]? = s[i]?
theorem Kp.trans {c d:Nat}{s s' ve:S}(h:Kp c d s s')(k:Kp c d s' ve):Kp c d s ve:=⟨k.len.trans h.len,λ i h1 h2=>(k.get i h1 h2).trans (h.get i h1 h2)⟩
theorem Dr.mono {c d n m:Nat}{s:S}(h:Dr c d n s)(k:n<=m):Dr c d m s:=by
 obtain⟨⟨t,cells,h1,h2,h3,h4,h5⟩,cl⟩:=h
 exact⟨⟨t,cells,h1,h2,h3,h4,by omega⟩,cl⟩
theorem Dr.ne {c d n:Nat}{s:S}(h:Dr c d n s):c≠d:=by
 obtain⟨⟨t,cells,h1,h2,_⟩,_⟩:=h
 rintro rfl
 rw[h1]at h2;cases h2
theorem Dr.Eu {c d n:Nat}{s:S}(h:Dr c d n s):c < s.length:=by
 obtain⟨⟨t,cells,h1,h2,_⟩,_⟩:=h
 exact(List.getElem?_eq_some_iff.mp h2).1
theorem Dr.Et {c d n:Nat}{s:S}(h:Dr c d n s):d < s.length:=by
 obtain⟨⟨t,cells,h1,h2,_⟩,_⟩:=h
 exact(List.getElem?_eq_some_iff.mp h1).1
theorem Dr.app {c d n:Nat}{s e:S}(h:Dr c d n s)(k:Cl (s++e)):Dr c d n (s++e):=by
 have l1:=h.Eu
 have l2:=h.Et
 obtain⟨⟨t,cells,h1,h2,h3⟩,cl⟩:=h
 exact⟨⟨t,cells,by rw[List.getElem?_append_left l2];exact h1,by rw[List.getElem?_append_left l1];exact h2,h3⟩,k⟩
theorem Dr.set {c d n i:Nat}{s:S}{o:AO}(h:Dr c d n s)(h1:i≠c)(h2:i≠d)(k:o.low s.length=true):Dr c d n (s.set i o):=by
 obtain⟨⟨t,cells,k1,k2,k3⟩,cl⟩:=h
 exact⟨⟨t,cells,by rw[List.getElem?_set_ne h2];exact k1,by rw[List.getElem?_set_ne h1];exact k2,k3⟩,cl.set k⟩
theorem low_ints (b:Nat):∀ l:List Int,aR b (l.map AV.int)=true
 | []=>by simp[aR]
 | i :: r=>by simp only[List.map_cons,aR,low_ints b r];simp[AV.low]
theorem E6 {x m:Int}(h:0 < m)(k:m<=2147483648):eQ 31 (x.fmod m):=by
 have h1:=Int.fmod_nonneg_of_pos x h
 have h2:=Int.fmod_lt_of_pos x h
 exact rq (by omega) (by omega)
theorem oo {n:Nat}{i:Int}(h:0<=i)(k:i < 2 ^ n):eQ n i:=rq (by omega) k
theorem gC {c d n:Nat}{s:S}(D:Dr c d n s)(hn:n<=1000000000){k:Int}(hk:0 < k)(fk:eQ 9000 k) :
  (aQ [.ref d,.int k] s).wp λ v s'=>∃ r,v=.int r/\0<=r/\r < k/\Dr c d (n+1) s'/\Kp c d s s':=by
 have lc:=D.Eu
 have ld:=D.Et
 have ne:=D.ne
 obtain⟨⟨t,cells,h1,h2,h3,h4,h5⟩,cl⟩:=D
 have e0:gA s d=some (sV c t):=by unfold gA;rw[h1]
 have g1:bh (.ref d) (.str "turn") s=.ok (.int t) s:=by
  show(need (gA s d) λ kvs=>need (fY (.str "turn")) λ k=>need (aV kvs k) λ v=>R.ok v s)=_
  rw[e0,aq]
  rw[show fY (.str "turn")=some (.inr "turn") from rfl,aq,E_];rfl
 let s1:=s.set d (.dK (sV c (t+1)))
 have p1:∀ env,putD (.int (t+1)) (.ref d) (.str "turn") env s=.nx env s1:=λ env=>by
  show(match gA s d,fY (.str "turn") with
   | some kvs,some k=>if kvs.length < sizeLine then RS.nx env (s.set d (.dK (eO kvs k (.int (t+1))))) else .bad
   | _,_=>.bad)=_
  rw[e0]
  show(if (sV c t).length < sizeLine then RS.nx env (s.set d (.dK (eO (sV c t) (.inr "turn") (.int (t+1))))) else .bad)=_
  rw[if_pos (bZ (by show(2:Nat)<=1000;omega)),Je]
 have e1:s1[d]? = some (.dK (sV c (t+1))):=List.getElem?_set_self ld
 have e2:s1[c]? = some (.lst (cells.map AV.int)):=by show(s.set d _)[c]? = _;rw[List.getElem?_set_ne (Ne.symm ne)];exact h2
 have l1:ak s1 c=some (cells.map AV.int):=cD e2
 have MT:Cl s1:=cl.set (by simp[AO.low,sV,aR,AV.low,lc])
 have Nj:Kp c d s s1:=⟨List.length_set,λ i _ hi=>List.getElem?_set_ne (Ne.symm hi)⟩
 have g2:bh (.ref d) (.str "cells") s1=.ok (.ref c) s1:=by
  show(need (gA s1 d) λ kvs=>need (fY (.str "cells")) λ k=>need (aV kvs k) λ v=>R.ok v s1)=_
  rw[show gA s1 d=some (sV c (t+1)) by unfold gA;rw[e1],aq]
  rw[show fY (.str "cells")=some (.inr "cells") from rfl,aq,BP];rfl
 have LH:0 < cells.length:=List.length_pos_iff.mpr h3
 have lenE:ie [.ref c] s1=.ok (.int cells.length) s1:=by
  show(need (ak s1 c) λ xs=>R.ok (AV.int xs.length) s1)=_
  rw[l1,aq,List.length_map]
 have vg:(0:Int) < cells.length:=by omega
 have j0:=Int.fmod_nonneg_of_pos (t+1) vg
 have j1:=Int.fmod_lt_of_pos (t+1) vg
 obtain⟨j,ej⟩:∃ j:Nat,(t+1).fmod cells.length=j:=⟨((t+1).fmod cells.length).toNat,by omega⟩
 have hj:j < cells.length:=by omega
 have ix:jD (cells.map AV.int) (j:Int)=some (.int cells[j]):=jy (by rw[List.getElem?_map,List.getElem?_eq_getElem hj];rfl)
 have R3:w6 (cells.map AV.int).length (j:Int)=some j:=by
  unfold w6
  rw[List.length_map,if_pos (by omega),if_pos (by omega)];rfl
 unfold aQ kF
 have gE:br (.ref c) (.int j) s1=.ok (.int cells[j]) s1:=by
  show(need (ak s1 c) λ xs=>need (jD xs j) λ v=>R.ok v s1)=_
  rw[l1,aq,ix];rfl
 have Pd:(10:Int) ^ (18:Int).toNat=1000000000000000000:=Oy
 have T1:eQ 31 (t+1):=oo (by omega) (by omega)
 simp only[↓WS,↓WE,↓WV,Lq,af,UU,Nat.reduceSub,↓reduceIte,↓aA g1,↓qg (p1 _),↓aA g2,↓aA lenE,ej,↓aA gE,Pd]
 refine⟨by omega,⟨by omega,by omega,by decide⟩,?_⟩
 split
 ·simp only[↓WS,↓WE,↓WV,Lq,af,UU,Nat.reduceSub,↓reduceIte,↓oX,↓ze,↓aA g2,l1,R3]
  refine⟨⟨hk,⟨fk⟩⟩,_,rfl,Int.emod_nonneg _ (by omega),Int.emod_lt_of_pos _ hk,⟨⟨t+1,cells.set j (cells[j] / k),?_,?_,?_,by omega,by omega⟩,?_⟩,?_⟩
  ·rw[List.getElem?_set_ne ne];exact e1
  ·rw[List.getElem?_set_self (by show c < s1.length;rw[Nj.len];exact lc),List.map_set]
  ·intro z
   have:=congrArg List.length z
   rw[List.length_set,List.length_nil]at this;omega
  ·refine MT.set ?_
   rw[<-List.map_set]
   exact low_ints _ _
  ·exact⟨by rw[List.length_set];exact Nj.len,λ i q1 q2=>by rw[List.getElem?_set_ne (Ne.symm q1)];exact Nj.get i q1 q2⟩
 ·have F1:eQ 31 (cells[j].fmod 2147483629):=E6 (by omega) (by omega)
  have Q8:eQ 13 (7919:Int):=oo (by omega) (by omega)
  have Te:eQ 16 (48271:Int):=oo (by omega) (by omega)
  have JI:eQ 17 (104729:Int):=oo (by omega) (by omega)
  have Tf:eQ 16 (39373:Int):=oo (by omega) (by omega)
  have F2:=T1.mul T1
  have F3:=F2.mul Q8
  have F4:eQ 76 (cells[j].fmod 2147483629+(t+1) * (t+1) * 7919):=eQ.add (n:=75) (F1.mono (by omega)) (F3.mono (by omega))
  have F5:eQ 77 (cells[j].fmod 2147483629+(t+1) * (t+1) * 7919+11):=eQ.add F4 (oo (by omega) (by omega))
  have F6:∀ x:Int,eQ 49 (x.fmod 2147483587+(t+1) * 104729):=λ x=>eQ.add (n:=48) ((E6 (by omega) (by omega)).mono (by omega)) ((T1.mul JI).mono (by omega))
  have bg:∀ {n:Nat}{i:Int},eQ n i->n<=100->CA i:=λ h k=>wc h (by omega)
  refine⟨by decide,⟨bg T1 (by omega),bg T1 (by omega)⟩,⟨bg F2 (by omega),bg Q8 (by omega)⟩,⟨bg F5 (by omega),bg Te (by omega)⟩,by decide,⟨bg (E6 (by omega) (by omega)) (by omega),bg (E6 (by omega) (by omega)) (by omega)⟩,by decide,⟨bg T1 (by omega),bg JI (by omega)⟩,⟨bg (F6 _) (by omega),bg Tf (by omega)⟩,by decide,⟨by decide,A0 (n:=7) (oo (by omega) (by omega)) (by omega)⟩,by omega,_,rfl,Int.fmod_nonneg_of_pos _ hk,Int.fmod_lt_of_pos _ hk,⟨⟨t+1,cells,e1,e2,h3,by omega,by omega⟩,MT⟩,Nj⟩
theorem BC {s:S}{n:Nat}:∀ {v:AV},kr v=true->∃ d,toD n s v=some d/\d.dep=0
 | .aC,_=>⟨.aC,by unfold toD;rfl,by simp[Dt.dep]⟩
 | .bl b,_=>⟨.bl b,by unfold toD;rfl,by simp[Dt.dep]⟩
 | .int b,_=>⟨.int b,by unfold toD;rfl,by simp[Dt.dep]⟩
 | .str b,_=>⟨.str b,by unfold toD;rfl,by simp[Dt.dep]⟩
theorem rm {s:S}{n:Nat}:∀ {l:List AV},l.all kr=true->∃ ds,l.mapM (toD n s)=some ds/\ds.length=l.length/\dc ds=0
 | [],_=>⟨[],rfl,rfl,by simp[dc]⟩
 | v :: r,h=>by
  rw[List.all_cons,Bool.and_eq_true]at h
  obtain⟨d,e1,e2⟩:=BC (s:=s) (n:=n) h.1
  obtain⟨ds,e3,e4,e5⟩:=rm (s:=s) (n:=n) h.2
  exact⟨d :: ds,by rw[List.mapM_cons,e1,e3];rfl,by simp[e4],by simp[dc,e2,e5]⟩
theorem BK {s:S}{i j:Nat}{xs:List AV}(h1:ak s i=some xs)(h2:ak s j=some [])(hf:xs.all kr=true):BL s (.ref i) (.ref j)=some xs.isEmpty:=by
 obtain⟨ds,e1,e2,e3⟩:=rm (s:=s) (n:=19) hf
 have t1:toD 20 s (.ref i)=some (.lst ds):=by
  simp only[toD,h1,Option.bind_some,e1,Option.map_some]
 have t2:toD 20 s (.ref j)=some (.lst []):=by
  simp only[toD,h2,Option.bind_some,List.mapM_nil];rfl
 unfold BL
 simp only
 rw[t1,t2]
 dsimp only
 rw[if_pos (by omega)]
 congr 1
 cases xs with
 | nil=>cases ds with
  | nil=>simp[g9]
  | cons=>cases e2
 | cons=>cases ds with
  | nil=>cases e2
  | cons=>simp[g9]
theorem rn:∀ l:List Int,(l.map AV.int).all kr=true
 | []=>rfl
 | i :: r=>by rw[List.map_cons,List.all_cons,rn r];rfl
theorem qx {k:Int}(h:0 < k)(l:k < 1048576):eQ 9000 k:=(oo (n:=20) (by omega) (by omega)).mono (by omega)
theorem oy (m:Ev)(env:En)(s:S)(Q:List AV × Gd->S->Prop):(rX (aa m ae) env s).wp Q=(m env s).wp λ v s1=>match v with|.int j=>(-(2 ^ 62)<=j/\j < 2 ^ 62)/\Q (kS 0 j.toNat,[]) s1|_=>False:=by
 unfold rX aa ae
 simp only[wp_bind,oW]
 congr 1
 funext v s1
 cases v<;>first|rfl|exact jB _ _ _
structure Gk (c d:Nat)(s s':S):Prop where
 len:s.length<=s'.length
 get:∀ i,i < s.length->i≠c->i≠d->s'[i]? = s[i]?
theorem Kp.gk {c d:Nat}{s s':S}(h:Kp c d s s'):Gk c d s s':=⟨by rw[h.len];exact Nat.le_refl _,λ i _ h1 h2=>h.get i h1 h2⟩
theorem Gk.app (c d:Nat)(s e:S):Gk c d s (s++e):=⟨by simp,λ i hi _ _=>List.getElem?_append_left hi⟩
theorem Gk.trans {c d:Nat}{s s' ve:S}(h:Gk c d s s')(k:Gk c d s' ve):Gk c d s ve:=⟨Nat.le_trans h.len k.len,λ i hi h1 h2=>(k.get i (Nat.lt_of_lt_of_le hi h.len) h1 h2).trans (h.get i hi h1 h2)⟩
theorem Gk.lst {c d n i:Nat}{s s':S}{xs:List AV}(h:Gk c d s s')(h1:i≠c)(h2:i≠d)(k:ak s i=some xs):ak s' i=some xs:=by
 have e:=aB k
 exact cD ((h.get i (List.getElem?_eq_some_iff.mp e).1 h1 h2).trans e)
theorem Gk.set {c d i:Nat}{s s':S}{o:AO}(h:Gk c d s s')(hi:s.length<=i):Gk c d s (s'.set i o):=⟨by rw[List.length_set];exact h.len,λ j hj h1 h2=>by rw[List.getElem?_set_ne (by omega)];exact h.get j hj h1 h2⟩
theorem Gk.cut {c d n m:Nat}{s s':S}(h:Gk c d s s')(D:Dr c d n s)(D':Dr c d m s'):Dr c d m (s'.take s.length)/\Kp c d s (s'.take s.length)/\(s'.take s.length).all (AO.low s.length)=true:=by
 have lc:=D.Eu
 have ld:=D.Et
 have el:(s'.take s.length).length=s.length:=by rw[List.length_take];have:=h.len;omega
 have eg:∀ i,i < s.length->(s'.take s.length)[i]? = s'[i]?:=λ i hi=>List.getElem?_take_of_lt hi
 have cl:=D.cl
 obtain⟨⟨t,cells,h1,h2,h3,h4,h5⟩,T5⟩:=D'
 have all:(s'.take s.length).all (AO.low s.length)=true:=by
  rw[List.all_eq_true]
  intro o ho
  obtain⟨i,hi,e⟩:=List.mem_iff_getElem.mp ho
  rw[el]at hi
  have e':(s'.take s.length)[i]? = some o:=by rw[List.getElem?_eq_getElem (by rw[el];exact hi)];rw[e]
  rw[eg i hi]at e'
  by_cases c1:i=c
  ·subst c1;rw[h2]at e';cases e';exact low_ints _ _
  by_cases c2:i=d
  ·subst c2;rw[h1]at e';cases e';simp[AO.low,sV,aR,AV.low,lc]
  rw[h.get i hi c1 c2]at e'
  have:=List.all_eq_true.mp (show s.all (AO.low s.length)=true from cl) o (List.mem_of_getElem? e')
  exact this
 refine⟨⟨⟨t,cells,by rw[eg d ld];exact h1,by rw[eg c lc];exact h2,h3,h4,h5⟩,?_⟩,⟨el,λ i c1 c2=>?_⟩,all⟩
 ·unfold Cl;rw[el];exact all
 ·by_cases hi:i < s.length
  ·rw[eg i hi];exact h.get i hi c1 c2
  ·rw[List.getElem?_eq_none (by rw[el];omega),List.getElem?_eq_none (by omega)]
theorem w4 {s:S}{i:Nat}{xs:List AV}{j:Int}(h:ak s i=some xs)(h0:0<=j)(h1:j < xs.length):∃ v,v∈xs/\br (.ref i) (.int j) s=.ok v s:=by
 obtain⟨n,rfl⟩:∃ n:Nat,j=n:=⟨j.toNat,by omega⟩
 have hn:n < xs.length:=by omega
 refine⟨xs[n],List.getElem_mem hn,?_⟩
 show(need (ak s i) λ xs=>need (jD xs n) λ v=>R.ok v s)=_
 rw[h,aq,jy (List.getElem?_eq_getElem hn)];rfl
theorem Rv {j b:Int}(h1:0<=j)(h2:j<=60)(h3:0 < b)(h4:b<=60):Sz 6 (Rat.divInt j b):=L9 (by omega) (oo (by omega) (by omega)) (oo (by omega) (by omega))
theorem BR {j b:Int}(h1:0<=j)(h3:0 < b):0<=Rat.divInt j b:=(Rat.divInt_nonneg_iff_of_pos_right h3).mpr h1
theorem div_add {a c b:Int}(h:b≠0):Rat.divInt a b+Rat.divInt c b=Rat.divInt (a+c) b:=by
 rw[Rat.divInt_add_divInt _ _ h h,<-Int.add_mul,Rat.divInt_mul_right h]
theorem Fb {j b:Int}(h1:j<=b)(h3:0 < b):Rat.divInt j b<=1:=by
 have:0<=Rat.divInt (b - j) b:=BR (by omega) h3
 have e:Rat.divInt (b - j) b+Rat.divInt j b=1:=by
  rw[div_add (by omega),show b - j+j=b by omega,Rat.divInt_self' (by omega)]
 grind
theorem Bc {a b:Int}(s:S)(h1:0<=a)(h2:a<=1000)(h3:0 < b)(h4:b<=1000):cy [.int a,.int b] s=.ok (fq (Rat.divInt a b)) s:=yi s (by omega) ((oo (n:=20) (by omega) (by omega)).mono (by omega)) ((oo (n:=20) (by omega) (by omega)).mono (by omega))
theorem wJ {c d n:Nat}{s:S}(D:Dr c d n s)(hn:n<=900001000):(dz [.ref d] s).wp λ v s'=>∃ q,v=fq q/\0<=q/\q<=1/\Sz 6 q/\Dr c d (n+3) s'/\Kp c d s s':=by
 unfold dz kG
 walk_at "w"
 refine(gC D (by omega) (by omega) (qx (by omega) (by omega))).mono ?_
 rintro _ s1 ⟨r,rfl,h0,h1,D1,K1⟩
 walk_at "w"
 have D1':=D1.app (e:=[.lst [.int 2,.int 3,.int 4,.int 5,.int 10,.int (1+r)]]) (D1.cl.add (by simp[AO.low,aR,AV.low]))
 refine(gC D1' (by omega) (by omega) (qx (by omega) (by omega))).mono ?_
 rintro _ s2 ⟨j,rfl,j0,j1,D2,K2⟩
 obtain⟨v,hv,ev⟩:=w4 (s:=s2) (i:=s1.length) (j:=j) (K2.gk.lst (n:=0) (by have:=D1.Eu;omega) (by have:=D1.Et;omega) (aF s1 _)) j0 j1
 obtain⟨b,rfl,b0,b1⟩:∃ b,v=.int b/\1<=b/\b<=60:=by
  simp only[List.mem_cons,List.not_mem_nil,or_false]at hv
  rcases hv with rfl|rfl|rfl|rfl|rfl|rfl<;>exact⟨_,rfl,by omega,by omega⟩
 have G:=(K1.gk.trans (Gk.app c d s1 _)).trans K2.gk
 obtain⟨D3,K3,al⟩:=G.cut D D2
 simp only[↓WS,↓WE,↓WV,Lq,af,UU,Nat.reduceSub,↓reduceIte,↓aA ev,al,show AV.low s.length (.int b)=true by simp[AV.low]]
 refine(gC D3 (by omega) (by omega) (qx (by omega) (by omega))).mono ?_
 rintro _ s3 ⟨i,rfl,i0,i1,D4,K4⟩
 simp only[↓WS,↓WE,↓WV,Lq,af,UU,Nat.reduceSub,↓reduceIte,↓aA (Bc (a:=1+i) (b:=b) _ (by omega) (by omega) (by omega) (by omega))]
 exact⟨_,rfl,BR (by omega) (by omega),Fb (by omega) (by omega),Rv (by omega) (by omega) (by omega) (by omega),D4,K3.trans K4⟩
theorem append_at {s:S}{i:Nat}{xs:List AV}{v:AV}(h:ak s i=some xs)(hl:xs.length < sizeLine):cV (.ref i) [v] s=.ok .aC (s.set i (.lst (xs++[v]))):=by
 unfold cV
 simp only[h,aq,if_pos hl]
theorem pR {s:S}{i:Nat}{xs:List AV}(h:ak s i=some xs):(iX "list" (.ref i) s).isSome=true:=by
 show((ak s i).map λ _=>()).isSome=true
 rw[h];rfl
theorem wW {s:S}{i:Nat}{xs ys:List AV}(h:ak s i=some xs):ak (s.set i (.lst ys)) i=some ys:=by
 refine cD (List.getElem?_set_self ?_)
 exact(List.getElem?_eq_some_iff.mp (aB h)).1
def hZ:Str:="b aa zebra c quartzes ab m knows d mm likes z ba abcdefgh y zz e x f g hh jj kk pave"
open PySem.Builtin.Str in
def sC:List Str:=partsBetween hZ (occurrences hZ " " 0 hZ.length (hZ.length+1)) (" ":Str).length
theorem Ax:sC.length=24:=by decide +kernel
open PySem.Builtin.Str in
theorem DR:(decide (hZ.length < (" ":Str).length) || decide (PySem.Builtin.Str.strKind hZ < PySem.Builtin.Str.strKind (" ":Str)))=false/\((" ":Str).length == 0)=false/\(occurrences hZ " " 0 hZ.length (hZ.length+1)).isEmpty=false/\hZ.length<=1000/\(partsBetween hZ (occurrences hZ " " 0 hZ.length (hZ.length+1)) (" ":Str).length).length<=1000:=by decide +kernel
theorem CW (s:S):mf (.str "b aa zebra c quartzes ab m knows d mm likes z ba abcdefgh y zz e x f g hh jj kk pave") [.str " "] s=.ok (sC.map AV.str) s:=if_pos DR
theorem cf (b:Nat):∀ l:List Str,aR b (l.map AV.str)=true
 | []=>by simp[aR]
 | i :: r=>by simp only[List.map_cons,aR,cf b r];simp[AV.low]
theorem nr {s:S}{i:Nat}{xs:List AV}(h:ak s i=some xs):ie [.ref i] s=.ok (.int xs.length) s:=by
 show(need (ak s i) λ xs=>R.ok (AV.int xs.length) s)=_
 rw[h];rfl
theorem BI {α β:Type}(f:α->β):∀ (l:List α) (m:Nat),(l.map f).eraseIdx m=(l.eraseIdx m).map f
 | [],_=>rfl
 | a :: r,0=>rfl
 | a :: r,m+1=>by show f a :: (r.map f).eraseIdx m=f a :: (r.eraseIdx m).map f;rw[BI f r m]
theorem TG:(fz "int" "list"=false)/\(fz "int" "tuple"=false)/\(fz "int" "str"=false)/\(fz "int" "int"=true)/\(fz "int" "bool"=false)/\
  (fz "str" "list"=false)/\(fz "str" "tuple"=false)/\(fz "str" "str"=true)/\
  (fz "tuple" "list"=false)/\(fz "tuple" "tuple"=true)/\(fz "list" "list"=true)/\(fz "list" "tuple"=false):=by
 refine⟨?_,?_,?_,?_,?_,?_,?_,?_,?_,?_,?_,?_⟩<;>decide +kernel
theorem EF (n:String)(i:Int)(s:S)(Q:AV->S->Prop):(fQ n (.int i) s).wp Q=Q (.bl (fz "int" n)) s:=rfl
theorem EE (n:String)(i:Str)(s:S)(Q:AV->S->Prop):(fQ n (.str i) s).wp Q=Q (.bl (fz "str" n)) s:=rfl
theorem ED (n:String)(i:List AV)(s:S)(Q:AV->S->Prop):(fQ n (.tup i) s).wp Q=Q (.bl (fz "tuple" n)) s:=rfl
theorem w8 {n:String}{i:Nat}{xs:List AV}{s:S}(h:ak s i=some xs):fQ n (.ref i) s=.ok (.bl (fz "list" n)) s:=by
 have e:=aB h
 unfold fQ
 rw[show wz (.ref i) s=some "list" by simp only[wz,e]];rfl
theorem jP (b:Bool)(s:S):truth (.bl b) s=some b:=rfl
theorem FI (a b:Bool)(s:S)(Q:AV->S->Prop):(pq (.bl a) (.bl b) s).wp Q=Q (.bl (!decide (a=b))) s:=rfl
theorem wu (a b:Ev)(env:En)(s:S)(Q:List AV × Gd->S->Prop):(zA a b env s).wp Q=(a env s).wp λ v s1=>(b env s1).wp λ w s2=>(need (xO v w s2) λ r=>.ok r s2).wp Q:=by
 unfold zA;rw[wp_bind];congr 1;funext v s1;rw[wp_bind]
theorem same_int (n:Nat)(i:Int)(s:S):au (n+1) [.int i,.int i] s=.ok (.bl true) s:=by
 apply R.wp.eq
 unfold au dA
 simp only[↓WS,↓WE,↓WV,Lq,af,UU,Nat.reduceSub,↓reduceIte,il,↓EF,TG,jP,Bool.not_false,decide_true]
theorem same_str (n:Nat)(i:Str)(s:S):au (n+1) [.str i,.str i] s=.ok (.bl true) s:=by
 apply R.wp.eq
 unfold au dA
 simp only[↓WS,↓WE,↓WV,Lq,af,UU,Nat.reduceSub,↓reduceIte,il,↓EE,TG,jP,Bool.not_false,decide_true]
theorem tu:∀ n:Nat,qz (List.replicate n (.bl true))=some (List.replicate n true)
 | 0=>rfl
 | n+1=>by rw[List.replicate_succ];show(qz (List.replicate n (.bl true))).map (true :: ·)=_;rw[tu n];rfl
theorem xH (m:Nat):(List.replicate m true).all id=true:=by
 rw[List.all_eq_true];intro b hb;rw[(List.mem_replicate.mp hb).2];rfl
theorem Ey (xs:List AV)(s:S):ie [.tup xs] s=.ok (.int xs.length) s:=rfl
end Ro
namespace Mm
open PySem L2
theorem M_ (c:Nat)(m:Str)(n:Nat)(F:List AV->S->R AV)(mo:Ev)(r:eG)(env:En)(s:S)(Q:AV->S->Prop):(aI c m n F mo r env s).wp Q=(mo env s).wp λ x s1=>match mE c x s1 with
 | some p=>p.2.lookup m=none/\(r env s1).wp λ vs s2=>vs.length=n/\(F (x :: vs) s2).wp Q
 | none=>False:=by
 unfold aI
 rw[wp_bind]
 congr 1
 funext x s1
 cases mE c x s1 with
 | none=>rfl
 | some p=>
  rw[l6,jB,wp_bind]
  congr 1
  congr 1
  funext vs s2
  rw[jB]
theorem CJ (c:Nat)(f:Str)(mo mv:Ev)(env:En)(s:S)(N:En->S->Prop)(T:AV->S->Prop):(gW c f mo mv env s).wp N T=(mv env s).wp λ y s1=>(mo env s1).wp λ x s2=>match mE c x s2 with
 | some p=>p.2.length < 1000/\N env (s2.set p.1 (.ins c (qP f y p.2)))
 | none=>False:=by
 unfold gW
 rw[bU]
 congr 1
 funext y s1
 rw[bU]
 congr 1
 funext x s2
 cases mE c x s2 with
 | none=>rfl
 | some p=>exact zd _ _ _ _
theorem xP {n i:Nat}{sub:Nat->Bool}{b h:Ms}{env e:En}{s s1:S}(hb:b env s=.nx e s1)(N:En->S->Prop)(T:AV->S->Prop):(mX n i sub b h env s).wp N T=N e s1:=by
 unfold mX;rw[hb];rfl
theorem CI (i:Nat)(r:RS)(N:En->S->Prop)(T:AV->S->Prop):(FV i r).wp N T=r.wp (λ e s=>N (e.set i none) s) T:=by cases r<;>rfl
theorem xQ {n i:Nat}{sub:Nat->Bool}{b h:Ms}{env:En}{s s1:S}{c:AX}(hb:b env s=.ex c s1)(hs:sub c.cls=true)(N:En->S->Prop)(T:AV->S->Prop):(mX n i sub b h env s).wp N T=(h ((List.replicate n none).set i (some (.ref s1.length))) (s1++[.exc c.cls])).wp (λ e s=>N (e.set i none) s) T:=by
 unfold mX;rw[hb];dsimp only;rw[if_pos hs,CI]
theorem jm {c i:Nat}{s:S}{fs:List (Str × AV)}(h:s[i]? = some (.ins c fs)):mE c (.ref i) s=some (i,fs):=by
 unfold mE;dsimp only;rw[h];dsimp only;rw[if_pos rfl]
theorem dS {c i:Nat}{s:S}{fs:List (Str × AV)}{f:Str}{v:AV}(h:s[i]? = some (.ins c fs)) (l:fs.lookup f=some v):cE c f (.ref i) s=.ok v s:=by
 unfold cE;rw[jm h];dsimp only[need];rw[l]
structure At (B:Nat)(m:List AO)(s:S):Prop where
 get:∀ i,i < m.length->s[B+i]? = m[i]?
theorem At.at {B:Nat}{m:List AO}{s:S}(h:At B m s){i:Nat}{o:AO}(e:m[i]? = some o):s[B+i]? = some o:=by
 rw[h.get i (List.getElem?_eq_some_iff.mp e).1];exact e
theorem At.len {B:Nat}{m:List AO}{s:S}(h:At B m s)(k:0 < m.length):B+m.length<=s.length:=by
 have e:=h.get (m.length - 1) (by omega)
 rw[List.getElem?_eq_getElem (by omega:m.length - 1 < m.length)]at e
 have:=(List.getElem?_eq_some_iff.mp e).1
 omega
theorem At.app {B:Nat}{m:List AO}{s:S}(h:At B m s)(e:S):At B m (s++e):=⟨λ i hi=>by
 have q:=h.get i hi
 rw[List.getElem?_eq_getElem hi]at q ⊢
 rw[List.getElem?_append_left (List.getElem?_eq_some_iff.mp q).1];exact q⟩
theorem At.new (s e:S):At s.length e (s++e):=⟨λ i hi=>by rw[List.getElem?_append_right (by omega)];congr 1;omega⟩
theorem At.set {B:Nat}{m:List AO}{s:S}(h:At B m s)(i:Nat)(o:AO):At B (m.set i o) (s.set (B+i) o):=⟨λ j hj=>by
 rw[List.length_set]at hj
 by_cases e:i=j
 ·subst e
  have q:=h.get i hj
  rw[List.getElem?_eq_getElem hj]at q
  rw[List.getElem?_set_self (List.getElem?_eq_some_iff.mp q).1,List.getElem?_set_self hj]
 ·rw[List.getElem?_set_ne (by omega),List.getElem?_set_ne e];exact h.get j hj⟩
theorem At.keep {B:Nat}{m:List AO}{s s':S}(h:At B m s)(k:∀ i,B<=i->i < B+m.length->s'[i]? = s[i]?):At B m s':=⟨λ i hi=>by rw[k _ (by omega) (by omega)];exact h.get i hi⟩
mutual
def Rp (b:Nat)(s:S):Dt->AV->Prop
 | .aC,v=>v=.aC
 | .bl _,_=>False
 | .int i,v=>v=.int i
 | .str x,v=>v=.str x
 | .tup l,v=>∃ xs,v=.tup xs/\l.length<=1000/\cw b s l xs
 | .lst l,v=>∃ i xs,v=.ref i/\b<=i/\ak s i=some xs/\l.length<=1000/\cw b s l xs
def cw (b:Nat)(s:S):List Dt->List AV->Prop
 | [],xs=>xs=[]
 | d :: l,xs=>∃ x r,xs=x :: r/\Rp b s d x/\cw b s l r
end
mutual
theorem Rp.mono {b:Nat}{s s':S}(k:∀ i xs,ak s i=some xs->ak s' i=some xs):∀ {d:Dt}{v:AV},Rp b s d v->Rp b s' d v
 | .aC,_,h=>by unfold Rp at h ⊢;exact h
 | .bl _,_,h=>by unfold Rp at h;exact h.elim
 | .int _,_,h=>by unfold Rp at h ⊢;exact h
 | .str _,_,h=>by unfold Rp at h ⊢;exact h
 | .tup l,_,h=>by
  unfold Rp at h ⊢
  obtain⟨xs,e,hl,h⟩:=h
  exact⟨xs,e,hl,cw.mono k h⟩
 | .lst l,_,h=>by
  unfold Rp at h ⊢
  obtain⟨i,xs,e,hb,h1,hl,h⟩:=h
  exact⟨i,xs,e,hb,k i xs h1,hl,cw.mono k h⟩
theorem cw.mono {b:Nat}{s s':S}(k:∀ i xs,ak s i=some xs->ak s' i=some xs):∀ {l:List Dt}{xs:List AV},cw b s l xs->cw b s' l xs
 | [],_,h=>by unfold cw at h ⊢;exact h
 | _ :: _,_,h=>by
  unfold cw at h ⊢
  obtain⟨x,r,e,h1,h2⟩:=h
  exact⟨x,r,e,Rp.mono k h1,cw.mono k h2⟩
end
theorem Rp.app {b:Nat}{s:S}{d:Dt}{v:AV}(h:Rp b s d v)(e:S):Rp b (s++e) d v:=h.mono λ _ _ q=>ai q
theorem cw.app {b:Nat}{s:S}{l:List Dt}{xs:List AV}(h:cw b s l xs)(e:S):cw b (s++e) l xs:=h.mono λ _ _ q=>ai q
theorem cw.nil {b:Nat}{s:S}:cw b s [] []:=by unfold cw;rfl
theorem cw.cons {b:Nat}{s:S}{d:Dt}{v:AV}{l:List Dt}{xs:List AV}(h:Rp b s d v)(k:cw b s l xs):cw b s (d :: l) (v :: xs):=by unfold cw;exact⟨v,xs,rfl,h,k⟩
theorem cw.length {b:Nat}{s:S}:∀ {l:List Dt}{xs:List AV},cw b s l xs->l.length=xs.length
 | [],_,h=>by unfold cw at h;subst h;rfl
 | _ :: _,_,h=>by
  unfold cw at h
  obtain⟨x,r,rfl,_,h2⟩:=h
  simp[cw.length h2]
theorem sh {b:Nat}(s:S)(i:Int):Rp b s (.int i) (.int i):=by unfold Rp;rfl
theorem zH {b:Nat}(s:S)(i:Str):Rp b s (.str i) (.str i):=by unfold Rp;rfl
theorem zI {b:Nat}(s:S):Rp b s .aC .aC:=by unfold Rp;rfl
theorem vy {b:Nat}{s:S}{l:List Dt}{xs:List AV}(hl:l.length<=1000)(h:cw b s l xs):Rp b s (.tup l) (.tup xs):=by unfold Rp;exact⟨xs,rfl,hl,h⟩
theorem lB {b:Nat}{s:S}{i:Nat}{l:List Dt}{xs:List AV}(e:ak s i=some xs)(hb:b<=i)(hl:l.length<=1000)(h:cw b s l xs):Rp b s (.lst l) (.ref i):=by unfold Rp;exact⟨i,xs,rfl,hb,e,hl,h⟩
theorem cw.map {b:Nat}{α:Type}{s:S}{f:α->Dt}{g:α->AV}:∀ {l:List α},(∀ a∈l,Rp b s (f a) (g a))->cw b s (l.map f) (l.map g)
 | [],_=>.nil
 | a :: l,h=>.cons (h a (.head _)) (cw.map λ b hb=>h b (.tail _ hb))
end Mm
namespace Ro
open PySem L2 Mm
theorem pf {n:Nat}{xs ys:List AV}{gs:Gd}{s:S}(hg:sR gs s)(h:∀ p∈xs.zip ys,au n [p.1,p.2] s=.ok (.bl true) s) (Q:List AV->S->Prop)(k:∀ m,Q (List.replicate m (.bl true)) s) :
  (bX (gT 2 (aU (gN 0) (aU (gN 1) g7))) jt (aE 2 (au n) (aa (mv 0) (aa (mv 1) ae))) gs (oO xs ys) [none,none] s []).wp Q:=by
 unfold oO
 refine kR (λ zs acc env st=>st=s/\∃ r x y m,(∀ p∈r,p∈xs.zip ys)/\zs=(r.map λ p=>AV.tup [p.1,p.2])/\env=[x,y]/\acc=List.replicate m (.bl true)) ?_ ?_ ?_ _ _ _ _ ⟨rfl,xs.zip ys,none,none,0,λ _ h=>h,rfl,rfl,rfl⟩
 ·rintro _ _ _ st ⟨rfl,_⟩;exact hg
 ·rintro acc env st ⟨rfl,r,x,y,m,_,e,rfl,rfl⟩;exact k m
 ·rintro v r acc env st ⟨rfl,r',x,y,m,hr,e,rfl,rfl⟩
  cases r' with
  | nil=>cases e
  | cons p r'=>
   cases e
   simp only[↓WS,↓WE,↓WV,Lq,af,UU,Nat.reduceSub,↓reduceIte,↓aA (h p (hr p (.head _)))]
   exact⟨r',_,_,m+1,λ x hx=>hr x (.tail _ hx),rfl,rfl,by rw[List.replicate_succ']⟩
theorem tV {xs ys:List AV}(h:xs.length=ys.length):(oO xs ys).length=xs.length:=by unfold oO;simp[h]
theorem x9 {n:Nat}{xs ys:List AV}{s:S}(hl:xs.length<=sizeLine)(he:xs.length=ys.length)(h:∀ p∈xs.zip ys,au n [p.1,p.2] s=.ok (.bl true) s):au (n+1) [.tup xs,.tup ys] s=.ok (.bl true) s:=by
 apply R.wp.eq
 unfold au dA
 simp only[↓WS,↓WE,↓WV,Lq,af,UU,Nat.reduceSub,↓reduceIte,il,↓ED,TG,jP,Bool.not_false,decide_true,↓FI,Bool.not_true,↓aA (Ey _ _),↓wu,xO,qm,he]
 refine⟨?_,?_⟩
 ·rw[tV he];exact hl
 refine pf (by intro p hp;cases hp) h _ λ m=>?_
 unfold zL
 rw[tu]
 simp only[↓WS,↓WE,↓WV,Lq,af,UU,Nat.reduceSub,↓reduceIte,xH]
theorem x_ {n i j:Nat}{xs ys:List AV}{s:S}(hl:xs.length<=sizeLine)(he:xs.length=ys.length)(h1:ak s i=some xs)(h2:ak s j=some ys)(h:∀ p∈xs.zip ys,au n [p.1,p.2] s=.ok (.bl true) s):au (n+1) [.ref i,.ref j] s=.ok (.bl true) s:=by
 apply R.wp.eq
 unfold au dA
 simp only[↓WS,↓WE,↓WV,Lq,af,UU,Nat.reduceSub,↓reduceIte,il,↓aA (w8 h1),↓aA (w8 h2),TG,jP,Bool.not_false,decide_true,↓FI,Bool.not_true,↓aA (nr h1),↓aA (nr h2),↓wu,xO,qm,h1,h2,Option.map_some,he]
 refine⟨?_,?_⟩
 ·rw[tV he];exact hl
 refine pf ?_ h _ λ m=>?_
 ·intro p hp
  simp only[List.cons_append,List.nil_append,List.mem_cons,List.not_mem_nil,or_false]at hp
  rcases hp with rfl|rfl
  ·exact h1
  ·exact h2
 unfold zL
 rw[tu]
 simp only[↓WS,↓WE,↓WV,Lq,af,UU,Nat.reduceSub,↓reduceIte,xH]
theorem zD (n:Nat)(s:S):au (n+1) [.aC,.aC] s=.ok (.bl true) s:=by
 apply R.wp.eq
 unfold au dA
 simp only[↓WS,↓WE,↓WV,Lq,af,UU,Nat.reduceSub,↓reduceIte,il]
mutual
theorem sd {b:Nat}{s:S}:∀ {d:Dt}{v w:AV}{n:Nat},Rp b s d v->Rp b s d w->d.dep < n->au n [v,w] s=.ok (.bl true) s
 | _,_,_,0,_,_,h=>absurd h (Nat.not_lt_zero _)
 | .aC,_,_,n+1,h,k,_=>by unfold Rp at h k;subst h k;exact zD n s
 | .bl _,_,_,n+1,h,k,_=>by unfold Rp at h;exact h.elim
 | .int _,_,_,n+1,h,k,_=>by unfold Rp at h k;subst h k;exact same_int n _ s
 | .str _,_,_,n+1,h,k,_=>by unfold Rp at h k;subst h k;exact same_str n _ s
 | .tup l,_,_,n+1,h,k,hd=>by
  unfold Rp at h k
  obtain⟨xs,rfl,hl,h⟩:=h
  obtain⟨ys,rfl,_,k⟩:=k
  have l1:=h.length
  have l2:=k.length
  have hd:dc l+1 < n+1:=by simpa[Dt.dep]using hd
  exact x9 (wA (by omega)) (by omega) (pe h k (by omega))
 | .lst l,_,_,n+1,h,k,hd=>by
  unfold Rp at h k
  obtain⟨i,xs,rfl,_,h1,hl,h⟩:=h
  obtain⟨j,ys,rfl,_,k1,_,k⟩:=k
  have l1:=h.length
  have l2:=k.length
  have hd:dc l+1 < n+1:=by simpa[Dt.dep]using hd
  exact x_ (wA (by omega)) (by omega) h1 k1 (pe h k (by omega))
theorem pe {b:Nat}{s:S}:∀ {l:List Dt}{xs ys:List AV}{n:Nat},cw b s l xs->cw b s l ys->dc l < n->∀ p∈xs.zip ys,au n [p.1,p.2] s=.ok (.bl true) s
 | [],_,_,n,h,k,_=>by
  unfold cw at h
  subst h
  intro p hp;simp at hp
 | d :: l,_,_,n,h,k,hd=>by
  unfold cw at h k
  obtain⟨x,r,rfl,h1,h2⟩:=h
  obtain⟨y,t,rfl,k1,k2⟩:=k
  have hd:max d.dep (dc l) < n:=by simpa[dc]using hd
  intro p hp
  rw[List.zip_cons_cons]at hp
  rcases List.mem_cons.mp hp with rfl|hp
  ·exact sd h1 k1 (by omega)
  ·exact pe h2 k2 (by omega) p hp
end
def kT {α:Type}(f:α->Str)(g:α->AV)(l:List α):List (Key × AV):=l.map λ a=>(.inr (f a),g a)
theorem zl {κ:Type} [DecidableEq κ] (k:κ)(v:AV)(j:κ):∀ l:List (κ × AV),aV (eO l k v) j=if k=j then some v else aV l j:=by
 have app:∀ l:List (κ × AV),aV (l++[(k,v)]) j=match aV l j with|some w=>some w|none=>if k=j then some v else none:=by
  intro l
  induction l with
  | nil=>rfl
  | cons p r ih=>
   show(if p.1=j then some p.2 else aV (r++[(k,v)]) j)=_
   rw[ih]
   show _=match (if p.1=j then some p.2 else aV r j) with|some w=>some w|none=>if k=j then some v else none
   by_cases h:p.1=j
   ·rw[if_pos h,if_pos h]
   ·rw[if_neg h,if_neg h]
 have no:∀ l:List (κ × AV),(l.any λ kv=>decide (kv.1=k))=false->aV l k=none:=by
  intro l
  induction l with
  | nil=>intro _;rfl
  | cons p r ih=>
   intro h
   rw[List.any_cons,Bool.or_eq_false_iff]at h
   unfold aV
   rw[if_neg (of_decide_eq_false h.1)]
   exact ih h.2
 have mp:∀ l:List (κ × AV),(l.any λ kv=>decide (kv.1=k))=true->aV (l.map λ kv=>if kv.1=k then (kv.1,v) else kv) j=if k=j then some v else aV l j:=by
  intro l
  induction l with
  | nil=>intro h;cases h
  | cons p r ih=>
   intro h
   rw[List.map_cons]
   by_cases hp:p.1=k
   ·rw[if_pos hp]
    show(if p.1=j then some v else aV (r.map _) j)=_
    rw[hp]
    by_cases hj:k=j
    ·rw[if_pos hj,if_pos hj]
    ·rw[if_neg hj,if_neg hj]
     show _=if p.1=j then some p.2 else aV r j
     rw[hp,if_neg hj]
     clear ih h
     induction r with
     | nil=>rfl
     | cons q t ih=>
      rw[List.map_cons]
      by_cases hq:q.1=k
      ·rw[if_pos hq]
       show(if q.1=j then some v else aV (t.map _) j)=if q.1=j then some q.2 else aV t j
       rw[hq,if_neg hj,if_neg hj];exact ih
      ·rw[if_neg hq]
       show(if q.1=j then some q.2 else aV (t.map _) j)=if q.1=j then some q.2 else aV t j
       rw[ih]
   ·rw[if_neg hp]
    rw[List.any_cons,decide_eq_false hp,Bool.false_or]at h
    show(if p.1=j then some p.2 else aV (r.map _) j)=_
    rw[ih h]
    show _=if k=j then some v else if p.1=j then some p.2 else aV r j
    by_cases hj:k=j
    ·rw[if_pos hj,if_pos hj,if_neg (λ z=>hp (z.trans hj.symm))]
    ·rw[if_neg hj,if_neg hj]
 intro l
 unfold eO
 by_cases ha:(l.any λ kv=>decide (kv.1=k))=true
 ·rw[if_pos ha];exact mp l ha
 ·rw[if_neg ha,app]
  have ha:(l.any λ kv=>decide (kv.1=k))=false:=Bool.eq_false_iff.mpr ha
  by_cases hj:k=j
  ·subst hj;rw[no l ha,if_pos rfl]
  ·rw[if_neg hj,if_neg hj]
   cases aV l j<;>rfl
theorem ug {κ:Type} [DecidableEq κ] (k:κ)(v:AV)(l:List (κ × AV)):(eO l k v).length<=l.length+1:=by
 unfold eO;split<;>simp
theorem vi {α:Type}(f:α->Str)(g:α->AV)(x:Str):∀ l:List α,aV (kT f g l) (.inr x)=(l.find? λ a=>decide (f a=x)).map g
 | []=>rfl
 | a :: r=>by
  show(if (Sum.inr (f a):Key)=Sum.inr x then some (g a) else aV (kT f g r) (.inr x))=_
  rw[vi f g x r,List.find?_cons]
  by_cases h:f a=x
  ·rw[if_pos (by rw[h]),decide_eq_true h];rfl
  ·rw[if_neg (λ z=>h (Sum.inr.inj z)),decide_eq_false h]
theorem rP {g:Str->AV}{x:Str}{l:List Str}(h:x∈l):aV (kT id g l) (.inr x)=some (g x):=by
 rw[vi]
 cases e:l.find? λ a=>decide (id a=x) with
 | none=>
  have:=List.find?_eq_none.mp e x h
  simp at this
 | some a=>
  have:=List.find?_some e
  have:a=x:=by simpa using this
  rw[this];rfl
theorem Gp {g:Str->AV}{x:Str}{l:List Str}(h:x∉l):aV (kT id g l) (.inr x)=none:=by
 rw[vi]
 have:(l.find? λ a=>decide (id a=x))=none:=List.find?_eq_none.mpr λ a ha=>by
  simp only[id,decide_eq_true_eq]
  intro e;exact h (e ▸ ha)
 rw[this];rfl
theorem rR {α:Type}(f:α->Str)(g:α->AV):∀ l:List α,gB (kT f g l)=some (l.map f)
 | []=>rfl
 | a :: r=>by
  show(gB (kT f g r)).map (f a :: ·)=_
  rw[rR f g r];rfl
theorem mY {g:Str->AV}{x:Str}{l:List Str}{v:AV}(h:x∉l)(hv:v=g x):eO (kT id g l) (.inr x) v=kT id g (l++[x]):=by
 unfold eO
 have:((kT id g l).any λ kv=>decide (kv.1=Sum.inr x))=false:=by
  rw[List.any_eq_false]
  intro p hp
  obtain⟨a,ha,rfl⟩:=List.mem_map.mp hp
  simp only[id,decide_eq_true_eq]
  intro z;exact h (Sum.inr.inj z ▸ ha)
 rw[this,if_neg (by decide)]
 unfold kT
 rw[List.map_append,hv];rfl
theorem Bg {g g':Str->AV}{l:List Str}(h:∀ x∈l,g x=g' x):kT id g l=kT id g' l:=List.map_congr_left λ a ha=>by show(_,g a)=(_,g' a);rw[h a ha]
theorem vC {g:Str->AV}{x:Str}{l:List Str}{v:AV}(h:x∈l):eO (kT id g l) (.inr x) v=kT id (λ y=>if y=x then v else g y) l:=by
 unfold eO
 have:((kT id g l).any λ kv=>decide (kv.1=Sum.inr x))=true:=by
  rw[List.any_eq_true]
  exact⟨(.inr x,g x),List.mem_map.mpr ⟨x,h,rfl⟩,by simp⟩
 rw[if_pos this]
 unfold kT
 rw[List.map_map]
 refine List.map_congr_left λ a ha=>?_
 show(if (Sum.inr a:Key)=Sum.inr x then ((Sum.inr a:Key),v) else (Sum.inr a,g a))=(Sum.inr a,if a=x then v else g a)
 by_cases e:a=x
 ·rw[if_pos (by rw[e]),if_pos e]
 ·rw[if_neg (λ z=>e (Sum.inr.inj z)),if_neg e]
def kY (a:Int × Int):AV:=.tup [.int a.1,.int a.2]
structure Wl where
 ps:List Str
 kf:Str->Int × Int
 ws:List Str
 kw:List (Key × AV)
 h:Int
def n6 (B:Nat)(h:Int):List (Str × AV):=[("keeps",.ref (B+1)),("rows",.ref (B+2)),("hands",.ref (B+3)),("makers",.ref (B+4)),("rates",.ref (B+5)),("half",.int h),("money",.ref (B+6)),("debts",.ref (B+7))]
def qE (B:Nat)(h:Int):List (Key × AV):=[(.inr "people",.ref (B+8)),(.inr "works",.ref (B+9)),(.inr "hands",.ref (B+10)),(.inr "known",.ref (B+11)),(.inr "rates",.ref (B+12)),(.inr "keeps",.ref (B+13)),(.inr "half",.int h),(.inr "money",.ref (B+15)),(.inr "debts",.ref (B+16))]
def mid (B:Nat)(V W:Wl):List AO:=[.ins 9 (n6 B V.h),.dK (kT id (λ p=>kY (V.kf p)) V.ps),.dK (kT id (λ _=>.tup []) V.ws),.dK [],.dK [],.dK [],.lst [],.lst [],
 .lst (W.ps.map .str),.dK (kT id (λ _=>.tup []) W.ws),.lst [],.dK [],.lst [],.dK W.kw,.dK (qE B W.h),.lst [],.lst []]
theorem fT (B:Nat)(h:Int):(n6 B h).lookup (Str.ofString "keeps")=some (AV.ref (B+1)):=by rfl
theorem kP (B:Nat)(h:Int):(n6 B h).lookup (Str.ofString "rows")=some (AV.ref (B+2)):=by rfl
theorem BF (B:Nat)(h:Int):(n6 B h).lookup (Str.ofString "hands")=some (AV.ref (B+3)):=by rfl
theorem yC (B:Nat)(h:Int):(n6 B h).lookup (Str.ofString "makers")=some (AV.ref (B+4)):=by rfl
theorem BE (B:Nat)(h:Int):(n6 B h).lookup (Str.ofString "rates")=some (AV.ref (B+5)):=by rfl
theorem xm (B:Nat)(h:Int):(n6 B h).lookup (Str.ofString "half")=some (AV.int h):=by rfl
theorem uI (B:Nat)(h:Int):(n6 B h).lookup (Str.ofString "money")=some (AV.ref (B+6)):=by rfl
theorem uJ (B:Nat)(h:Int):(n6 B h).lookup (Str.ofString "debts")=some (AV.ref (B+7)):=by rfl
theorem xl (B:Nat)(h:Int){m:Str}(k:((["keeps","rows","hands","makers","rates","half","money","debts"]:List Str).any λ f=>m == f)=false):(n6 B h).lookup m=none:=by
 simp only[List.any_cons,List.any_nil,Bool.or_false,Bool.or_eq_false_iff]at k
 obtain⟨k1,k2,k3,k4,k5,k6,k7,k8⟩:=k
 unfold n6
 simp only[List.lookup_cons,k1,k2,k3,k4,k5,k6,k7,k8,List.lookup_nil]
section
variable {B:Nat}{V W:Wl}{s:S}
theorem fA (h:At B (mid B V W) s):s[B]? = some (.ins 9 (n6 B V.h)):=h.at (i:=0) rfl
theorem fU (h:At B (mid B V W) s):gA s (B+1)=some (kT id (λ p=>kY (V.kf p)) V.ps):=iL (h.at (i:=1) rfl)
theorem kQ (h:At B (mid B V W) s):gA s (B+2)=some (kT id (λ _=>.tup []) V.ws):=iL (h.at (i:=2) rfl)
theorem BW (h:At B (mid B V W) s):gA s (B+3)=some []:=iL (h.at (i:=3) rfl)
theorem yF (h:At B (mid B V W) s):gA s (B+4)=some []:=iL (h.at (i:=4) rfl)
theorem BU (h:At B (mid B V W) s):gA s (B+5)=some []:=iL (h.at (i:=5) rfl)
theorem A_ (h:At B (mid B V W) s):ak s (B+6)=some []:=cD (h.at (i:=6) rfl)
theorem Bb (h:At B (mid B V W) s):ak s (B+7)=some []:=cD (h.at (i:=7) rfl)
theorem bR (h:At B (mid B V W) s):ak s (B+8)=some (W.ps.map .str):=cD (h.at (i:=8) rfl)
theorem eZ (h:At B (mid B V W) s):gA s (B+9)=some (kT id (λ _=>.tup []) W.ws):=iL (h.at (i:=9) rfl)
theorem Ba (h:At B (mid B V W) s):ak s (B+10)=some []:=cD (h.at (i:=10) rfl)
theorem BV (h:At B (mid B V W) s):gA s (B+11)=some []:=iL (h.at (i:=11) rfl)
theorem A9 (h:At B (mid B V W) s):ak s (B+12)=some []:=cD (h.at (i:=12) rfl)
theorem F9 (h:At B (mid B V W) s):gA s (B+13)=some W.kw:=iL (h.at (i:=13) rfl)
theorem F8 (h:At B (mid B V W) s):gA s (B+14)=some (qE B W.h):=iL (h.at (i:=14) rfl)
theorem Lh (h:At B (mid B V W) s):ak s (B+15)=some []:=cD (h.at (i:=15) rfl)
theorem Li (h:At B (mid B V W) s):ak s (B+16)=some []:=cD (h.at (i:=16) rfl)
theorem kA {i:Nat}{kvs:List (Key × AV)}{x:Str}(h:gA s i=some kvs):jX (.str x) (.ref i) s=.ok (.bl (aV kvs (.inr x)).isSome) s:=by
 show(need (gA s i) λ kvs=>need (fY (.str x)) λ k=>R.ok (AV.bl (aV kvs k).isSome) s)=_
 rw[h];rfl
theorem oH {i:Nat}{kvs:List (Key × AV)}{x:Str}(h:gA s i=some kvs):pB (.str x) (.ref i) s=.ok (.bl (!(aV kvs (.inr x)).isSome)) s:=by
 show(need (gA s i) λ kvs=>need (fY (.str x)) λ k=>R.ok (AV.bl (!(aV kvs k).isSome)) s)=_
 rw[h];rfl
theorem xr {i:Nat}{kvs:List (Key × AV)}{x:Str}{v:AV}(h:gA s i=some kvs)(e:aV kvs (.inr x)=some v):bh (.ref i) (.str x) s=.ok v s:=by
 show(need (gA s i) λ kvs=>need (fY (.str x)) λ k=>need (aV kvs k) λ v=>R.ok v s)=_
 rw[h,aq,show fY (.str x)=some (.inr x) from rfl,aq,e];rfl
theorem eV {g:Str->AV}{x:Str}{l:List Str}:(aV (kT id g l) (.inr x)).isSome=decide (x∈l):=by
 by_cases h:x∈l
 ·rw[rP h,decide_eq_true h];rfl
 ·rw[Gp h,decide_eq_false h];rfl
end
theorem L_ {n:Nat}{b:Ms}{as:List AV}{s s1:S}{v:AV}{env:En}(h:b env s=.rt v s1)(he:env=as.map some++List.replicate (n - as.length) none:=by rfl):eL n b as s=.ok v s1:=by subst he;unfold eL;rw[h]
theorem p0 {n:Nat}{b:Ms}{as:List AV}{s s1:S}{e env:En}(h:b env s=.nx e s1)(he:env=as.map some++List.replicate (n - as.length) none:=by rfl):eL n b as s=.ok .aC s1:=by subst he;unfold eL;rw[h]
theorem i4 {n:Nat}{b:Ms}{as:List AV}{s s1:S}{c:AX}{env:En}(h:b env s=.ex c s1)(he:env=as.map some++List.replicate (n - as.length) none:=by rfl):eL n b as s=.ex c s1:=by subst he;unfold eL;rw[h]
theorem lA {a b:Ms}{env:En}{s s1:S}{c:AX}(h:a env s=.ex c s1):aD a b env s=.ex c s1:=by unfold aD;rw[h]
theorem lz {a b:Ms}{env e:En}{s s1:S}(h:a env s=.nx e s1):aD a b env s=b e s1:=by unfold aD;rw[h]
theorem cR {m:Ev}{env:En}{s s1:S}{c:AX}(h:m env s=.ex c s1):bQ m env s=.ex c s1:=by unfold bQ;rw[h];rfl
theorem iy {m:Ev}{env:En}{s s1:S}{v:AV}(h:m env s=.ok v s1):bQ m env s=.nx env s1:=by unfold bQ;rw[h];rfl
theorem om {c:Eb}{a b:Ms}{env:En}{s s1:S}(h:c env s=.ok true s1):gF c a b env s=a env s1:=by unfold gF;rw[h];rfl
theorem jF {c:Eb}{a b:Ms}{env:En}{s s1:S}(h:c env s=.ok false s1):gF c a b env s=b env s1:=by unfold gF;rw[h];rfl
theorem iF {v:AV}{l:En}{s:S}:mv 0 (some v :: l) s=.ok v s:=rfl
theorem mz {x:Option AV}{v:AV}{l:En}{s:S}:mv 1 (x :: some v :: l) s=.ok v s:=rfl
theorem K6 {c:Nat}{m:Str}{F:List AV->S->R AV}{mo ma:Ev}{env:En}{s:S}{i:Nat}{v:AV}{fs:List (Str × AV)}(h:s[i]? = some (.ins c fs)) (l:fs.lookup m=none)(e1:mo env s=.ok (.ref i) s) (e2:ma env s=.ok v s):aI c m 1 F mo (aa ma ae) env s=F [.ref i,v] s:=by
 unfold aI aa ae
 rw[e1,ay,jm h]
 dsimp only[need]
 rw[if_pos l,e2]
 rfl
theorem K8 {c:Nat}{m:Str}{F:List AV->S->R AV}{mo:Ev}{env:En}{s:S}{i:Nat}{fs:List (Str × AV)}(h:s[i]? = some (.ins c fs)) (l:fs.lookup m=none)(e1:mo env s=.ok (.ref i) s):aI c m 0 F mo ae env s=F [.ref i] s:=by
 unfold aI ae
 rw[e1,ay,jm h]
 dsimp only[need]
 rw[if_pos l]
 rfl
theorem Bh {a x:Str}{m:Ev}{env:En}{s:S}(h:a.length<=1000)(k:x.length<=1000)(e:m env s=.ok (.str x) s) (r:Ej)(Q:AV->S->Prop)(hr:∀ t:Str,t.length<=2000->((r t env s).bind λ t s1=>if t.length<=sizeLine then R.ok (AV.str t) s1 else .bad).wp Q):(nM (ij (mc (.str a)) (ij (cC pA m) r)) env s).wp Q:=by
 have l0:(Str.empty++a).length=a.length:=by rw[Str.length_append];show 0+_=_;omega
 have l1:(Str.empty++a++x).length=a.length+x.length:=by rw[Str.length_append,l0]
 unfold nM ij mc cC
 simp only[ay]
 rw[if_pos (by rw[l0,sizeLine_eq];omega)]
 have ef:pA (.str x) s=.ok (.str x) s:=if_pos (by rw[sizeLine_eq];omega)
 simp only[e,ay,ef]
 rw[if_pos (by rw[l1,sizeLine_eq];omega)]
 exact hr _ (by rw[l1];omega)
theorem join_nil {env:En}{s:S}{Q:AV->S->Prop}(h:∀ t,Q (.str t) s):∀ t:Str,t.length<=2000->((uD t env s).bind λ t s1=>if t.length<=sizeLine then R.ok (AV.str t) s1 else .bad).wp Q:=λ t ht=>by
 unfold uD
 rw[ay,if_pos (by rw[sizeLine_eq];omega)]
 exact h t
theorem join_one {a:Str}{env:En}{s:S}{Q:AV->S->Prop}(ha:a.length<=1000)(h:∀ t,Q (.str t) s):∀ t:Str,t.length<=2000->((ij (mc (.str a)) uD t env s).bind λ t s1=>if t.length<=sizeLine then R.ok (AV.str t) s1 else .bad).wp Q:=λ t ht=>by
 have l0:(t++a).length=t.length+a.length:=Str.length_append _ _
 unfold ij mc uD
 simp only[ay]
 rw[if_pos (by rw[l0,sizeLine_eq];omega),ay,if_pos (by rw[l0,sizeLine_eq];omega)]
 exact h _
theorem zF {c:Nat}{m:Ev}{env:En}{s:S}(h:(m env s).wp λ _ s1=>s1=s):FE c (aa m ae) env s=.ex ⟨c,[]⟩ s:=by
 obtain⟨v,s1,e,rfl⟩:=h.get
 unfold FE aa ae
 rw[e]
 rfl
section
variable {B:Nat}{V W:Wl}{s:S}
theorem fX (h:At B (mid B V W) s) {x:Str}(hp:x∈V.ps):aK [.ref B,.str x] s=.ok .aC s:=by
 unfold aK cU
 refine p0 (env:=[some (.ref B),some (.str x)]) (jF (s1:=s) (R.wp.eq ?_))
 simp only[↓WS,↓WE,↓WV,Lq,af,UU,Nat.reduceSub,↓reduceIte,↓aA (dS (fA h) (fT B V.h)),↓aA (oH (fU h)),eV,hp,decide_true,Bool.not_true]
theorem gX (h:At B (mid B V W) s) {x:Str}(hx:x.length<=1000)(hp:x∉V.ps):aK [.ref B,.str x] s=.ex ⟨3,[]⟩ s:=by
 unfold aK cU
 refine i4 (env:=[some (.ref B),some (.str x)]) ((om (s1:=s) (R.wp.eq ?_)).trans (zF (Bh (by decide) hx rfl _ _ (join_nil λ _=>rfl))))
 simp only[↓WS,↓WE,↓WV,Lq,af,UU,Nat.reduceSub,↓reduceIte,↓aA (dS (fA h) (fT B V.h)),↓aA (oH (fU h)),eV,hp,decide_false,Bool.not_false]
theorem k_ (h:At B (mid B V W) s) {x:Str}(hp:x∈V.ws):aY [.ref B,.str x] s=.ok .aC s:=by
 unfold aY dI
 refine p0 (env:=[some (.ref B),some (.str x)]) (jF (s1:=s) (R.wp.eq ?_))
 simp only[↓WS,↓WE,↓WV,Lq,af,UU,Nat.reduceSub,↓reduceIte,↓aA (dS (fA h) (kP B V.h)),↓aA (oH (kQ h)),eV,hp,decide_true,Bool.not_true]
theorem mx (h:At B (mid B V W) s) {x:Str}(hx:x.length<=1000)(hp:x∉V.ws):aY [.ref B,.str x] s=.ex ⟨3,[]⟩ s:=by
 unfold aY dI
 refine i4 (env:=[some (.ref B),some (.str x)]) ((om (s1:=s) (R.wp.eq ?_)).trans (zF (Bh (by decide) hx rfl _ _ (join_nil λ _=>rfl))))
 simp only[↓WS,↓WE,↓WV,Lq,af,UU,Nat.reduceSub,↓reduceIte,↓aA (dS (fA h) (kP B V.h)),↓aA (oH (kQ h)),eV,hp,decide_false,Bool.not_false]
theorem nU (h:At B (mid B V W) s) (x:Str):b_ [.ref B,.str x] s=.ok (.bl (decide (x∈V.ps∨x∈V.ws))) s:=by
 apply R.wp.eq
 unfold b_ gu
 by_cases hp:x∈V.ps
 ·simp only[↓WS,↓WE,↓WV,Lq,af,UU,Nat.reduceSub,↓reduceIte,↓aA (dS (fA h) (fT B V.h)),↓aA (kA (fU h)),eV,hp,decide_true,true_or]
 ·simp only[↓WS,↓WE,↓WV,Lq,af,UU,Nat.reduceSub,↓reduceIte,↓aA (dS (fA h) (fT B V.h)),↓aA (kA (fU h)),eV,hp,decide_false,false_or,↓aA (dS (fA h) (kP B V.h)),↓aA (kA (kQ h))]
theorem dh {F:List AV->S->R AV}{m:Str}{mo ma:Ev}{env:En}{x:AV}(h:At B (mid B V W) s) (l:((["keeps","rows","hands","makers","rates","half","money","debts"]:List Str).any λ f=>m == f)=false) (e1:mo env s=.ok (.ref B) s) (e2:ma env s=.ok x s):aI 9 m 1 F mo (aa ma ae) env s=F [.ref B,x] s:=K6 (fA h) (xl B V.h l) e1 e2
theorem nq {F:List AV->S->R AV}{m:Str}{mo:Ev}{env:En}(h:At B (mid B V W) s) (l:((["keeps","rows","hands","makers","rates","half","money","debts"]:List Str).any λ f=>m == f)=false) (e1:mo env s=.ok (.ref B) s):aI 9 m 0 F mo ae env s=F [.ref B] s:=K8 (fA h) (xl B V.h l) e1
theorem la (h:At B (mid B V W) s) {x:Str}(hp:¬ (x∈V.ps∨x∈V.ws)):aZ [.ref B,.str x] s=.ok .aC s:=by
 unfold aZ dJ
 refine p0 (env:=[some (.ref B),some (.str x)]) (jF (s1:=s) (R.wp.eq ?_))
 simp only[↓WS,↓WE,↓WV,Lq,af,UU,Nat.reduceSub,↓reduceIte,↓aA ((dh (m:="has_name") h (by decide +kernel) iF mz).trans (nU h x)),hp,decide_false,jP]
theorem my (h:At B (mid B V W) s) {x:Str}(hx:x.length<=1000)(hp:x∈V.ps∨x∈V.ws):aZ [.ref B,.str x] s=.ex ⟨2,[]⟩ s:=by
 unfold aZ dJ
 refine i4 (env:=[some (.ref B),some (.str x)]) ((om (s1:=s) (R.wp.eq ?_)).trans (zF (Bh (by decide) hx rfl _ _ (join_one (by decide) λ _=>rfl))))
 simp only[↓WS,↓WE,↓WV,Lq,af,UU,Nat.reduceSub,↓reduceIte,↓aA ((dh (m:="has_name") h (by decide +kernel) iF mz).trans (nU h x)),hp,decide_true,jP]
theorem jT {i:Nat}{kvs:List (Key × AV)}{x:Str}{v:AV}{env:En}(h:gA s i=some kvs)(l:kvs.length < 1000):putD v (.ref i) (.str x) env s=.nx env (s.set i (.dK (eO kvs (.inr x) v))):=by
 show(match gA s i,fY (.str x) with
  | some kvs,some k=>if kvs.length < sizeLine then RS.nx env (s.set i (.dK (eO kvs k v))) else .bad
  | _,_=>.bad)=_
 rw[h]
 show(if kvs.length < sizeLine then _ else _)=_
 rw[if_pos (by rw[sizeLine_eq];omega)]
theorem sJ {α:Type}(f:α->Str)(g:α->AV)(l:List α):(kT f g l).length=l.length:=by unfold kT;rw[List.length_map]
theorem qe (h:At B (mid B V W) s) {x:Str}(hp:¬ (x∈V.ps∨x∈V.ws)) (hl:V.ps.length < 1000)(hk:V.kf x=(0,1)):a8 [.ref B,.str x] s=.ok .aC (s.set (B+1) (.dK (kT id (λ p=>kY (V.kf p)) (V.ps++[x])))):=by
 apply R.wp.eq
 unfold a8 dj
 simp only[↓WS,↓WE,↓WV,Lq,af,UU,Nat.reduceSub,↓reduceIte,↓aA ((dh (m:="need_free") h (by decide +kernel) iF mz).trans (la h hp)),↓aA (dS (fA h) (fT B V.h)),↓qg (jT (fU h) (by rw[sJ];exact hl))]
 rw[mY (λ z=>hp (.inl z)) (by rw[hk];rfl)]
theorem qB (h:At B (mid B V W) s) {x:Str}(hx:x.length<=1000)(hp:x∈V.ps∨x∈V.ws):a8 [.ref B,.str x] s=.ex ⟨2,[]⟩ s:=by
 unfold a8 dj
 exact i4 (env:=[some (.ref B),some (.str x)]) (lA (cR ((dh (m:="need_free") h (by decide +kernel) iF mz).trans (my h hx hp))))
theorem tF (h:At B (mid B V W) s) {x:Str}(hp:¬ (x∈V.ps∨x∈V.ws)) (hl:V.ws.length < 1000):bG [.ref B,.str x] s=.ok .aC (s.set (B+2) (.dK (kT id (λ _=>.tup []) (V.ws++[x])))):=by
 apply R.wp.eq
 unfold bG eF
 simp only[↓WS,↓WE,↓WV,Lq,af,UU,Nat.reduceSub,↓reduceIte,↓aA ((dh (m:="need_free") h (by decide +kernel) iF mz).trans (la h hp)),↓aA (dS (fA h) (kP B V.h)),↓qg (jT (kQ h) (by rw[sJ];exact hl))]
 rw[mY (g:=λ _=>.tup []) (λ z=>hp (.inr z)) rfl]
theorem vc (h:At B (mid B V W) s) {x:Str}(hx:x.length<=1000)(hp:x∈V.ps∨x∈V.ws):bG [.ref B,.str x] s=.ex ⟨2,[]⟩ s:=by
 unfold bG eF
 exact i4 (env:=[some (.ref B),some (.str x)]) (lA (cR ((dh (m:="need_free") h (by decide +kernel) iF mz).trans (my h hx hp))))
theorem sk (h:At B (mid B V W) s) {x:Str}{a:Int × Int}(hp:x∈V.ps)(hl:V.ps.length < 1000):bF [.ref B,.str x,kY a] s=.ok .aC (s.set (B+1) (.dK (kT id (λ p=>kY (if p=x then a else V.kf p)) V.ps))):=by
 apply R.wp.eq
 unfold bF d_
 simp only[↓WS,↓WE,↓WV,Lq,af,UU,Nat.reduceSub,↓reduceIte,↓aA ((dh (m:="need_person") h (by decide +kernel) iF mz).trans (fX h hp)),↓aA (dS (fA h) (fT B V.h)),↓qg (jT (fU h) (by rw[sJ];exact hl))]
 rw[vC hp,Bg (g':=λ p=>kY (if p=x then a else V.kf p)) λ y _=>?_]
 show(if y=x then kY a else kY (V.kf y))=_
 split<;>rfl
theorem ue (h:At B (mid B V W) s) {x:Str}{a:AV}(hx:x.length<=1000)(hp:x∉V.ps):bF [.ref B,.str x,a] s=.ex ⟨3,[]⟩ s:=by
 unfold bF d_
 exact i4 (env:=[some (.ref B),some (.str x),some a]) (lA (cR ((dh (m:="need_person") h (by decide +kernel) iF mz).trans (gX h hx hp))))
theorem uf (h:At B (mid B V W) s) (d:Int):bN [.ref B,.int d] s=.ok .aC (s.set B (.ins 9 (n6 B d))):=by
 apply R.wp.eq
 unfold bN gq
 simp only[↓WS,↓WE,↓WV,Lq,af,UU,Nat.reduceSub,↓reduceIte,↓CJ,jm (fA h)]
 refine⟨by show 8 < 1000;omega,rfl⟩
theorem sQ (h:At B (mid B V W) s):aL [.ref B] s=.ok (.int V.h) s:=by
 apply R.wp.eq
 unfold aL dM
 simp only[↓WS,↓WE,↓WV,Lq,af,UU,Nat.reduceSub,↓reduceIte,↓aA (dS (fA h) (xm B V.h))]
end
end Ro
namespace Mm
open PySem L2
mutual
theorem Rp.low {b:Nat}{s:S}:∀ {d:Dt}{v:AV},Rp b s d v->v.low s.length=true
 | .aC,_,h=>by unfold Rp at h;subst h;simp only[AV.low]
 | .bl _,_,h=>by unfold Rp at h;exact h.elim
 | .int _,_,h=>by unfold Rp at h;subst h;simp only[AV.low]
 | .str _,_,h=>by unfold Rp at h;subst h;simp only[AV.low]
 | .tup l,_,h=>by
  unfold Rp at h
  obtain⟨xs,rfl,_,h⟩:=h
  simp only[AV.low];exact cw.low h
 | .lst l,_,h=>by
  unfold Rp at h
  obtain⟨i,xs,rfl,_,h1,_⟩:=h
  simp only[AV.low,decide_eq_true_eq]
  exact(List.getElem?_eq_some_iff.mp (aB h1)).1
theorem cw.low {b:Nat}{s:S}:∀ {l:List Dt}{xs:List AV},cw b s l xs->aR s.length xs=true
 | [],_,h=>by unfold cw at h;subst h;simp only[aR]
 | _ :: _,_,h=>by
  unfold cw at h
  obtain⟨x,r,rfl,h1,h2⟩:=h
  simp only[aR,Rp.low h1,cw.low h2];rfl
end
theorem cw.append {b:Nat}{s:S}:∀ {l q:List Dt}{xs ys:List AV},cw b s l xs->cw b s q ys->cw b s (l++q) (xs++ys)
 | [],_,_,_,h,k=>by unfold cw at h;subst h;exact k
 | _ :: _,_,_,_,h,k=>by
  unfold cw at h
  obtain⟨x,r,rfl,h1,h2⟩:=h
  exact .cons h1 (cw.append h2 k)
theorem cw.one {b:Nat}{s:S}{d:Dt}{v:AV}(h:Rp b s d v):cw b s [d] [v]:=.cons h .nil
theorem dD {b:Nat}{s:S}{l:List Dt}{xs:List AV}(c:Cl s)(h:cw b s l xs):Cl (s++[.lst xs]):=c.add (by
 have:=h.low
 simp only[List.all_cons,List.all_nil,AO.low,Bool.and_true]
 exact aR.mono (by simp) this)
theorem dZ {b:Nat}{s:S}{l:List Dt}{xs:List AV}(hb:b<=s.length)(hl:l.length<=1000)(h:cw b s l xs):Rp b (s++[.lst xs]) (.lst l) (.ref s.length):=lB (Ro.aF s xs) hb hl (h.app _)
def nice (b:Nat):AV->Bool
 | .ref i=>decide (b<=i)
 | .sq _=>false
 | _=>true
structure Ct (b:Nat)(s:S):Prop where
 cl:Cl s
 nl:∀ i o,b<=i->s[i]? = some o->∃ xs,o=.lst xs/\xs.length<=1000/\(∀ v∈xs,nice b v=true)/\aR i xs=true
 le:b<=s.length
theorem Rp.nice {b:Nat}{s:S}{d:Dt}{v:AV}(h:Rp b s d v):nice b v=true:=by
 cases v with
 | ref i=>
  cases d with
  | lst l=>unfold Rp at h;obtain⟨j,xs,e,hb,_⟩:=h;cases e;exact decide_eq_true hb
  | aC=>unfold Rp at h;cases h
  | bl _=>unfold Rp at h;exact h.elim
  | int _=>unfold Rp at h;cases h
  | str _=>unfold Rp at h;cases h
  | tup _=>unfold Rp at h;obtain⟨_,e,_⟩:=h;cases e
 | sq l=>
  cases d with
  | lst l=>unfold Rp at h;obtain⟨j,xs,e,hb,_⟩:=h;cases e
  | aC=>unfold Rp at h;cases h
  | bl _=>unfold Rp at h;exact h.elim
  | int _=>unfold Rp at h;cases h
  | str _=>unfold Rp at h;cases h
  | tup _=>unfold Rp at h;obtain⟨_,e,_⟩:=h;cases e
 | _=>rfl
theorem cw.nice {b:Nat}{s:S}:∀ {l:List Dt}{xs:List AV},cw b s l xs->∀ v∈xs,nice b v=true
 | [],_,h=>by unfold cw at h;subst h;intro v hv;cases hv
 | _ :: _,_,h=>by
  unfold cw at h
  obtain⟨x,r,rfl,h1,h2⟩:=h
  intro v hv
  rcases List.mem_cons.mp hv with rfl|hv
  ·exact h1.nice
  ·exact cw.nice h2 v hv
theorem Ct.push {b:Nat}{s:S}{l:List Dt}{xs:List AV}(c:Ct b s)(hl:l.length<=1000)(h:cw b s l xs):Ct b (s++[.lst xs]):=⟨dD c.cl h,λ i o hi e=>by
 by_cases k:i < s.length
 ·rw[List.getElem?_append_left k]at e;exact c.nl i o hi e
 ·rw[List.getElem?_append_right (by omega)]at e
  have hz:i - s.length=0:=by
   have:=(List.getElem?_eq_some_iff.mp e).1
   simp at this;omega
  rw[hz]at e
  cases e
  exact⟨xs,rfl,by rw[<-h.length];exact hl,h.nice,by have:=h.low;rwa [show i=s.length by omega]⟩,by have:=c.le;simp;omega⟩
theorem Ct.start {s:S}(c:Cl s):Ct s.length s:=⟨c,λ i o hi e=>absurd (List.getElem?_eq_some_iff.mp e).1 (by omega),Nat.le_refl _⟩
theorem tH {b:Nat}{s:S}{l q:List Dt}{v w:AV}(h:Rp b s (.lst l) v) (k:Rp b s (.lst q) w) (hl:l.length+q.length<=1000)(hb:b<=s.length):∃ xs,du v w s=.ok (.ref s.length) (s++[.lst xs])/\cw b s (l++q) xs/\Rp b (s++[.lst xs]) (.lst (l++q)) (.ref s.length):=by
 unfold Rp at h k
 obtain⟨i,xs,rfl,_,h1,_,h2⟩:=h
 obtain⟨j,ys,rfl,_,k1,_,k2⟩:=k
 have l1:=h2.length
 have l2:=k2.length
 refine⟨xs++ys,B1 h1 k1 (wA (by omega)),h2.append k2,dZ hb (by simp;omega) (h2.append k2)⟩
theorem kB {eS:Mt}{test:Eb}{elt:Ev}{env:En}{s:S}{acc:List AV}:bX eS test elt [] [] env s acc=.ok acc s:=by unfold bX;exact if_pos (show sR [] s from λ p hp=>nomatch hp)
theorem jK {s:S}{i:Nat}{xs:List AV}(h:ak s i=some xs):zk (.ref i) s=.ok (xs,[(i,xs)]) s:=by
 show(need (ak s i) λ xs=>R.ok (xs,[(i,xs)]) s)=_
 rw[h];rfl
theorem kD {b:Nat}(C:S->Prop){names:List Str}{i:Nat}{s:S}{elt:Ev}{x0:Option AV}{rest:En}(f:Str->Dt)(hg:ak s i=some (names.map AV.str)) (c:C s)
  (h:∀ x∈names,∀ e,C (s++e)->(elt (some (.str x) :: rest) (s++e)).wp λ v s'=>∃ e',s'=s++e++e'/\C s'/\Rp b s' (f x) v) :
  (bX (gN 0) jt elt [(i,names.map AV.str)] (names.map AV.str) (x0 :: rest) s []).wp λ acc s'=>∃ e,s'=s++e/\C s'/\cw b s' (names.map f) acc:=by
 refine kR (λ xs acc env st=>∃ done r x e,names=done++r/\xs=r.map AV.str/\env=x :: rest/\st=s++e/\C st/\cw b st (done.map f) acc) ?_ ?_ ?_ _ _ _ _ ⟨[],names,x0,[],rfl,rfl,rfl,by simp,c,.nil⟩
 ·rintro _ _ _ st ⟨_,_,_,e,_,_,_,rfl,_⟩ p hp
  rw[List.mem_singleton.mp hp]
  exact ai hg
 ·rintro acc env st ⟨done,r,x,e,e1,e2,rfl,rfl,c1,h1⟩
  cases r with
  | cons=>cases e2
  | nil=>rw[List.append_nil]at e1;subst e1;exact⟨e,rfl,c1,h1⟩
 ·rintro v r acc env st ⟨done,r',x,e,e1,e2,rfl,rfl,c1,h1⟩
  cases r' with
  | nil=>cases e2
  | cons y r'=>
   cases e2
   walk_at "w"
   refine(h y (by rw[e1];simp) e c1).mono ?_
   rintro v s' ⟨e',rfl,c2,h2⟩
   exact⟨done++[y],r',_,e++e',by rw[e1];simp,rfl,rfl,by simp,c2,by rw[List.map_append];exact(h1.app e').append (.one h2)⟩
end Mm
namespace Ro
open PySem L2 Mm
abbrev hX:Str:="by_days.<locals>.<lambda>"
structure lW (B:Nat)(V W:Wl)(s:S):Prop where
 at_:At B (mid B V W) s
 cl:Cl s
 tab:s.any (tabAt 20 hX)=true
theorem lW.app {B:Nat}{V W:Wl}{s e:S}(h:lW B V W s)(c:Cl (s++e)):lW B V W (s++e):=⟨h.at_.app e,c,by rw[List.any_append,h.tab];rfl⟩
theorem v8 {B:Nat}{V W:Wl}{s:S}(h:At B (mid B V W) s) {f:Str}{v:AV}{l:En}(k:(n6 B V.h).lookup f=some v):cC (cE 9 f) (mv 0) (some (.ref B) :: l) s=.ok v s:=by
 unfold cC
 rw[iF,ay]
 exact dS (fA h) k
theorem rZ {s:S}{i:Nat}{kvs:List (Key × AV)}{ks:List Str}{m:Ev}{env:En}(h:gA s i=some kvs)(t:gB kvs=some ks)(l:ks.length < 64)(e:m env s=.ok (.ref i) s):lQ m env s=.ok ((av ks).map AV.str) s:=by
 unfold lQ
 rw[e,ay]
 dsimp only
 rw[h,aq,t,aq,if_pos l]
theorem qN {s:S}{i:Nat}{m:Ev}{env:En}(h:gA s i=some [])(e:m env s=.ok (.ref i) s):nz m env s=.ok [] s:=by
 unfold nz
 rw[e,ay]
 dsimp only
 rw[h]
 rfl
section
variable {B:Nat}{V W:Wl}{s:S}
theorem n_ (h:At B (mid B V W) s) (l:V.ps.length < 64):bD [.ref B] s=.ok (.ref s.length) (s++[.lst ((av V.ps).map AV.str)]):=by
 apply R.wp.eq
 unfold bD dU
 simp only[↓WS,↓WE,↓WV,Lq,af,UU,Nat.reduceSub,↓reduceIte,↓aA (rZ (fU h) (rR _ _ _) (by rw[List.map_id];exact l) (v8 h (fT B V.h))),List.map_id]
theorem qh (h:At B (mid B V W) s) (l:V.ws.length < 64):bJ [.ref B] s=.ok (.ref s.length) (s++[.lst ((av V.ws).map AV.str)]):=by
 apply R.wp.eq
 unfold bJ fc
 simp only[↓WS,↓WE,↓WV,Lq,af,UU,Nat.reduceSub,↓reduceIte,↓aA (rZ (kQ h) (rR _ _ _) (by rw[List.map_id];exact l) (v8 h (kP B V.h))),List.map_id]
theorem nJ (h:At B (mid B V W) s) {x:Str}(hp:x∈V.ws):bA [.ref B,.str x] s=.ok (.tup []) s:=by
 apply R.wp.eq
 unfold bA fe
 simp only[↓WS,↓WE,↓WV,Lq,af,UU,Nat.reduceSub,↓reduceIte,↓aA ((dh (m:="need_work") h (by decide +kernel) iF mz).trans (k_ h hp)),↓aA (dS (fA h) (kP B V.h)),↓aA (xr (kQ h) (rP hp))]
theorem vz (h:At B (mid B V W) s) {x:Str}(hx:x.length<=1000)(hp:x∉V.ws):bA [.ref B,.str x] s=.ex ⟨3,[]⟩ s:=by
 unfold bA fe
 exact i4 (env:=[some (.ref B),some (.str x)]) (lA (cR ((dh (m:="need_work") h (by decide +kernel) iF mz).trans (mx h hx hp))))
theorem nQ (h:At B (mid B V W) s) {x:Str}(hp:x∈V.ps):bB [.ref B,.str x] s=.ok (kY (V.kf x)) s:=by
 apply R.wp.eq
 unfold bB fh
 simp only[↓WS,↓WE,↓WV,Lq,af,UU,Nat.reduceSub,↓reduceIte,↓aA ((dh (m:="need_person") h (by decide +kernel) iF mz).trans (fX h hp)),↓aA (dS (fA h) (fT B V.h)),↓aA (xr (fU h) (rP hp))]
theorem vT (h:At B (mid B V W) s) {x:Str}(hx:x.length<=1000)(hp:x∉V.ps):bB [.ref B,.str x] s=.ex ⟨3,[]⟩ s:=by
 unfold bB fh
 exact i4 (env:=[some (.ref B),some (.str x)]) (lA (cR ((dh (m:="need_person") h (by decide +kernel) iF mz).trans (gX h hx hp))))
theorem mG (h:At B (mid B V W) s) {x:Str}(hp:x∈V.ps):bf [.ref B,.str x] s=.ok (.ref s.length) (s++[.lst []]):=by
 apply R.wp.eq
 unfold bf eB
 simp only[↓WS,↓WE,↓WV,Lq,af,UU,Nat.reduceSub,↓reduceIte,↓aA ((dh (m:="need_person") h (by decide +kernel) iF mz).trans (fX h hp)),↓aA (qN (BW h) (v8 h (BF B V.h))),↓aA kB,List.length_nil,Nat.zero_le]
theorem uH (h:At B (mid B V W) s) {x:Str}(hx:x.length<=1000)(hp:x∉V.ps):bf [.ref B,.str x] s=.ex ⟨3,[]⟩ s:=by
 unfold bf eB
 exact i4 (env:=[some (.ref B),some (.str x)]) (lA (cR ((dh (m:="need_person") h (by decide +kernel) iF mz).trans (gX h hx hp))))
theorem pT {i:Nat}{kvs:List (Key × AV)}(h:gA s i=some kvs):(iX "dict" (.ref i) s).isSome=true:=by
 have e:=fM h
 unfold iX
 simp only[e];rfl
theorem xi {i:Nat}{x:Str}{d y:Ev}{env:En}(h:gA s i=some [])(e1:d env s=.ok (.ref i) s) (e2:y env s=.ok (.str x) s):qY d y env s=.ok .aC s:=by
 obtain⟨u,eu⟩:=Option.isSome_iff_exists.mp (pT h)
 unfold qY
 rw[e1,ay,eu,aq,e2,ay]
 show(need (gA s i) λ kvs=>need (fY (.str x)) λ k=>R.ok ((aV kvs k).getD .aC) s)=_
 rw[h];rfl
theorem mD (h:At B (mid B V W) s) {x:Str}(hp:x∈V.ws):bc [.ref B,.str x] s=.ok .aC s:=by
 apply R.wp.eq
 unfold bc eA
 simp only[↓WS,↓WE,↓WV,Lq,af,UU,Nat.reduceSub,↓reduceIte,↓aA ((dh (m:="need_work") h (by decide +kernel) iF mz).trans (k_ h hp)),↓aA (xi (yF h) (v8 h (yC B V.h)) mz)]
theorem uB (h:At B (mid B V W) s) {x:Str}(hx:x.length<=1000)(hp:x∉V.ws):bc [.ref B,.str x] s=.ex ⟨3,[]⟩ s:=by
 unfold bc eA
 exact i4 (env:=[some (.ref B),some (.str x)]) (lA (cR ((dh (m:="need_work") h (by decide +kernel) iF mz).trans (mx h hx hp))))
theorem si (h:At B (mid B V W) s):bT [.ref B] s=.ok (.ref s.length) (s++[.lst []]):=by
 apply R.wp.eq
 unfold bT fI
 simp only[↓WS,↓WE,↓WV,Lq,af,UU,Nat.reduceSub,↓reduceIte,↓aA (qN (BU h) (v8 h (BE B V.h))),↓aA kB,List.length_nil,Nat.zero_le]
theorem iB {i:Nat}(h:ak s i=some [])(t:s.any (tabAt 20 hX)=true):cL [.ref i] s=.ok (.ref s.length) (s++[.lst []]):=by
 apply R.wp.eq
 have e:∀ l,pY 20 hX (mv 0) (some (.ref i) :: l) s=.ok [] s:=λ l=>by
  unfold pY
  rw[iF,ay]
  dsimp only
  rw[h,aq,if_pos ⟨rfl,t⟩]
 unfold cL nC
 simp only[↓WS,↓WE,↓WV,Lq,af,UU,Nat.reduceSub,↓reduceIte,↓aA (e _)]
theorem take_nil (c:Cl s){m:Ev}{env:En}(e:m env s=.ok (.ref s.length) (s++[.lst []])):kg m env s=.ok [] s:=by
 apply R.wp.eq
 simp only[↓WS,↓WE,↓WV,Lq,af,UU,Nat.reduceSub,↓reduceIte,↓aA e,aF,↓jB,List.take_left]
 exact⟨Nat.le_refl _,c,by simp[aR]⟩
theorem qw (h:lW B V W s):aH [.ref B] s=.ok (.ref s.length) (s++[.lst []]):=by
 apply R.wp.eq
 have e:∀ l,aE 1 cL (aa (cC (cE 9 "money") (mv 0)) ae) (some (.ref B) :: l) s=.ok (.ref s.length) (s++[.lst []]):=λ l=>by
  unfold aE aa ae
  rw[v8 h.at_ (uI B V.h)]
  exact iB (A_ h.at_) h.tab
 unfold aH di
 simp only[↓WS,↓WE,↓WV,Lq,af,UU,Nat.reduceSub,↓reduceIte,↓aA (take_nil h.cl (e _))]
theorem sW (h:lW B V W s):aM [.ref B] s=.ok (.ref s.length) (s++[.lst []]):=by
 apply R.wp.eq
 have e:∀ l,aE 1 cL (aa (cC (cE 9 "debts") (mv 0)) ae) (some (.ref B) :: l) s=.ok (.ref s.length) (s++[.lst []]):=λ l=>by
  unfold aE aa ae
  rw[v8 h.at_ (uJ B V.h)]
  exact iB (Bb h.at_) h.tab
 unfold aM dN
 simp only[↓WS,↓WE,↓WV,Lq,af,UU,Nat.reduceSub,↓reduceIte,↓aA (take_nil h.cl (e _))]
end
def o6 (V:Wl):List Dt:=[.lst ((av V.ps).map .str),.lst ((av V.ws).map .str),.lst ((av V.ws).map λ _=>.tup []),.lst ((av V.ps).map λ _=>.lst [])]
def t9 (V:Wl):List Dt:=[.lst ((av V.ws).map λ _=>.aC),.lst ((av V.ps).map λ p=>.tup [.int (V.kf p).1,.int (V.kf p).2])]
def t6 (V:Wl):List Dt:=[.lst [],.int V.h,.lst [],.lst []]
def told (V:Wl):Dt:=.lst (o6 V++t9 V++t6 V)
theorem fP {b:Nat}(s:S)(l:List Str):cw b s (l.map Dt.str) (l.map AV.str):=cw.map λ a _=>zH s a
theorem pH {s:S}(c:Cl s):Cl (s++[.lst []]):=dD (b:=0) (l:=[]) c .nil
theorem sD {b:Nat}{s:S}(c:Ct b s):Ct b (s++[.lst []]):=c.push (l:=[]) (by simp) .nil
theorem lJ {b:Nat}{s:S}(hb:b<=s.length):Rp b (s++[.lst []]) (.lst []) (.ref s.length):=dZ hb (by simp) .nil
theorem zJ {b:Nat}(s:S)(a:Int × Int):Rp b s (.tup [.int a.1,.int a.2]) (kY a):=vy (by simp) (.cons (sh s _) (.one (sh s _)))
theorem iV {x:Str}{l:List Str}:x∈av l ↔ x∈l:=(gU l).mem_iff
theorem jk {l:List Str}(h:l.length < 64){α:Type}(f:Str->α):((av l).map f).length<=1000:=by rw[List.length_map,xY];omega
theorem FC {l:List Str}(h:l.length < 64){α:Type}(f:Str->α):((av l).map f).length<=sizeLine:=wA (jk h f)
theorem Ka {a b c d:AV}:([a,b,c,d].length<=sizeLine)=True:=eq_true (wA (by show 4<=1000;omega))
section
variable {B:Nat}{V W:Wl}{s:S}
theorem u_ {b:Nat}(hb:b=s.length)(h:lW B V W s)(lp:V.ps.length < 64)(lw:V.ws.length < 64):(bM [.ref B] s).wp λ v s'=>∃ e,s'=s++e/\Ct b s'/\Rp b s' (told V) v:=by
 have c0:Ct b s:=by rw[hb];exact Ct.start h.cl
 have c1:Ct b (s++[.lst ((av V.ws).map AV.str)]):=c0.push (jk lw Dt.str) (fP _ _)
 have h1:=h.app c1.cl
 have c2:Ct b (s++[.lst ((av V.ws).map AV.str)]++[.lst ((av V.ps).map AV.str)]):=c1.push (jk lp Dt.str) (fP _ _)
 have h2:=h1.app c2.cl
 have Tj:b<=(s++[AO.lst ((av V.ws).map AV.str)]).length:=c1.le
 have Ti:b<=s.length:=c0.le
 clear hb c0
 have hw:ak (s++[.lst ((av V.ws).map AV.str)]++[.lst ((av V.ps).map AV.str)]) s.length=some ((av V.ws).map AV.str):=ai (aF _ _)
 have hp:ak (s++[.lst ((av V.ws).map AV.str)]++[.lst ((av V.ps).map AV.str)]) (s++[AO.lst ((av V.ws).map AV.str)]).length=some ((av V.ps).map AV.str):=aF _ _
 unfold bM gp
 simp only[↓WS,↓WE,↓WV,Lq,af,UU,Nat.reduceSub,↓reduceIte,↓aA ((nq (m:="work_names") h.at_ (by decide +kernel) iF).trans (qh h.at_ lw)),↓aA ((nq (m:="person_names") h1.at_ (by decide +kernel) iF).trans (n_ h1.at_ lp))]
 rw[List.append_assoc]at *
 generalize ([AO.lst ((av V.ws).map AV.str)]++[AO.lst ((av V.ps).map AV.str)])=e0 at *
 generalize (s++[AO.lst ((av V.ws).map AV.str)]).length=ip at *
 generalize s.length=iw at *
 clear h1 c1
 simp only[↓WS,↓WE,↓WV,Lq,af,UU,Nat.reduceSub,↓reduceIte,↓aA (jK hw),Ka]
 refine⟨FC lw _,(kD (b:=b) (Ct b) (λ _=>Dt.tup []) hw c2 ?_).mono ?_⟩
 ·intro x hx e ce
  rw[aA ((dh (m:="rows_of") (h2.app ce.cl).at_ (by decide +kernel) mz iF).trans (nJ (h2.app ce.cl).at_ (iV.mp hx)))]
  exact⟨[],by simp,ce,vy (by simp) .nil⟩
 rintro iU s3 ⟨e1,rfl,c3,r3⟩
 have c4:=c3.push (jk lw _) r3
 have p4:=dZ c3.le (jk lw _) r3
 have h4:lW B V W (s++e0++e1++[.lst iU]):=by rw[List.append_assoc];exact h2.app (by rw[<-List.append_assoc];exact c4.cl)
 have EJ:ak (s++e0++e1++[.lst iU]) iw=some ((av V.ws).map AV.str):=ai (ai hw)
 have Bn:ak (s++e0++e1++[.lst iU]) ip=some ((av V.ps).map AV.str):=ai (ai hp)
 rw[List.append_assoc,List.append_assoc]at c4 p4 h4 EJ Bn
 (try simp only[List.append_assoc]);(try simp only[List.append_assoc]at c4);(try simp only[List.append_assoc]at p4);(try simp only[List.append_assoc]at h4);(try simp only[List.append_assoc]at EJ);(try simp only[List.append_assoc]at Bn)
 generalize e0++(e1++[AO.lst iU])=e2 at *
 generalize (s++(e0++e1)).length=ir at *
 clear r3 c3 h2 c2 hw hp
 simp only[↓WS,↓WE,↓WV,Lq,af,UU,Nat.reduceSub,↓reduceIte,↓aA (jK Bn),Ka]
 refine⟨FC lp _,(kD (b:=b) (Ct b) (λ _=>Dt.lst []) Bn c4 ?_).mono ?_⟩
 ·intro x hx e ce
  rw[aA ((dh (m:="hands_of") (h4.app ce.cl).at_ (by decide +kernel) mz iF).trans (mG (h4.app ce.cl).at_ (iV.mp hx)))]
  exact⟨[.lst []],rfl,sD ce,lJ ce.le⟩
 rintro handsL s5 ⟨e3,rfl,c5,r5⟩
 have c6:=c5.push (jk lp _) r5
 have p6:=dZ c5.le (jk lp _) r5
 have Qs:Rp b (s++e2++e3++[.lst handsL]) (.lst ((av V.ws).map λ _=>.tup [])) (.ref ir):=(p4.app e3).app _
 have h6:lW B V W (s++e2++e3++[.lst handsL]):=by rw[List.append_assoc];exact h4.app (by rw[<-List.append_assoc];exact c6.cl)
 have O8:ak (s++e2++e3++[.lst handsL]) iw=some ((av V.ws).map AV.str):=ai (ai EJ)
 have Pf:ak (s++e2++e3++[.lst handsL]) ip=some ((av V.ps).map AV.str):=ai (ai Bn)
 have rA:cw b (s++e2++e3++[.lst handsL]) (o6 V) [.ref ip,.ref iw,.ref ir,.ref (s++e2++e3).length]:=.cons (lB Pf Tj (jk lp _) (fP _ _)) (.cons (lB O8 Ti (jk lw _) (fP _ _)) (.cons Qs (.one p6)))
 have c7:=c6.push (show(o6 V).length<=1000 by show 4<=1000;omega) rA
 have p7:=dZ c6.le (show(o6 V).length<=1000 by show 4<=1000;omega) rA
 have h7:=h6.app c7.cl
 have Nn:=ai (e:=[.lst [.ref ip,.ref iw,.ref ir,.ref (s++e2++e3).length]]) O8
 have Pe:=ai (e:=[.lst [.ref ip,.ref iw,.ref ir,.ref (s++e2++e3).length]]) Pf
 clear rA c6 p6 Qs h6 O8 Pf r5 c5 h4 c4 EJ Bn p4
 (try simp only[List.append_assoc]);(try simp only[List.append_assoc]at c7);(try simp only[List.append_assoc]at p7);(try simp only[List.append_assoc]at h7);(try simp only[List.append_assoc]at Nn);(try simp only[List.append_assoc]at Pe)
 generalize e2++(e3++([AO.lst handsL]++[AO.lst [.ref ip,.ref iw,.ref ir,.ref (s++(e2++e3)).length]]))=e5 at *
 generalize (s++(e2++(e3++[AO.lst handsL]))).length=ia at *
 simp only[↓WS,↓WE,↓WV,Lq,af,UU,Nat.reduceSub,↓reduceIte,↓aA (jK Nn),Ka]
 refine⟨FC lw _,(kD (b:=b) (Ct b) (λ _=>Dt.aC) Nn c7 ?_).mono ?_⟩
 ·intro x hx e ce
  rw[aA ((dh (m:="known_of") (h7.app ce.cl).at_ (by decide +kernel) mz iF).trans (mD (h7.app ce.cl).at_ (iV.mp hx)))]
  exact⟨[],by simp,ce,zI _⟩
 rintro knL s8 ⟨e6,rfl,c8,r8⟩
 have c9:=c8.push (jk lw _) r8
 have p9:=dZ c8.le (jk lw _) r8
 have OA:Rp b (s++e5++e6++[.lst knL]) (.lst (o6 V)) (.ref ia):=(p7.app e6).app _
 have h9:lW B V W (s++e5++e6++[.lst knL]):=by rw[List.append_assoc];exact h7.app (by rw[<-List.append_assoc];exact c9.cl)
 have Nr:ak (s++e5++e6++[.lst knL]) ip=some ((av V.ps).map AV.str):=ai (ai Pe)
 (try simp only[List.append_assoc]);(try simp only[List.append_assoc]at c9);(try simp only[List.append_assoc]at p9);(try simp only[List.append_assoc]at OA);(try simp only[List.append_assoc]at h9);(try simp only[List.append_assoc]at Nr)
 generalize e5++(e6++[AO.lst knL])=e7 at *
 generalize (s++(e5++e6)).length=ik at *
 clear r8 c8 h7 c7 Nn Pe p7
 simp only[↓WS,↓WE,↓WV,Lq,af,UU,Nat.reduceSub,↓reduceIte,↓aA (jK Nr),Ka]
 refine⟨FC lp _,(kD (b:=b) (Ct b) (λ p=>Dt.tup [.int (V.kf p).1,.int (V.kf p).2]) Nr c9 ?_).mono ?_⟩
 ·intro x hx e ce
  rw[aA ((dh (m:="keep_of") (h9.app ce.cl).at_ (by decide +kernel) mz iF).trans (nQ (h9.app ce.cl).at_ (iV.mp hx)))]
  exact⟨[],by simp,ce,zJ _ _⟩
 rintro kpL Qn ⟨e8,rfl,JI,Kk⟩
 have NL:=JI.push (jk lp _) Kk
 have Qw:=dZ JI.le (jk lp _) Kk
 have Kw:Rp b (s++e7++e8++[.lst kpL]) (.lst (o6 V)) (.ref ia):=(OA.app e8).app _
 have Ko:Rp b (s++e7++e8++[.lst kpL]) (.lst ((av V.ws).map λ _=>.aC)) (.ref ik):=(p9.app e8).app _
 have Nz:lW B V W (s++e7++e8++[.lst kpL]):=by rw[List.append_assoc];exact h9.app (by rw[<-List.append_assoc];exact NL.cl)
 have rB:cw b (s++e7++e8++[.lst kpL]) (t9 V) [.ref ik,.ref (s++e7++e8).length]:=.cons Ko (.one Qw)
 have NK:=NL.push (show(t9 V).length<=1000 by show 2<=1000;omega) rB
 have Qv:=dZ NL.le (show(t9 V).length<=1000 by show 2<=1000;omega) rB
 obtain⟨ys,ey,Qr,Qu⟩:=tH (Kw.app [.lst [.ref ik,.ref (s++e7++e8).length]]) Qv (by show 4+2<=1000;omega) NK.le
 have NJ:=NK.push (by show 6<=1000;omega) Qr
 simp only[<-List.append_assoc]
 rw[aA ey]
 have Ny:=(Nz.app NK.cl).app NJ.cl
 clear Qr rB NK Qv ey Kw Ko Qw Nz NL Kk JI h9 c9 Nr p9 OA
 (try simp only[List.append_assoc]);(try simp only[List.append_assoc]at NJ);(try simp only[List.append_assoc]at Qu);(try simp only[List.append_assoc]at Ny)
 generalize e7++(e8++([AO.lst kpL]++([AO.lst [.ref ik,.ref (s++(e7++e8)).length]]++[AO.lst ys])))=NG at *
 generalize (s++(e7++(e8++([AO.lst kpL]++[AO.lst [.ref ik,.ref (s++(e7++e8)).length]])))).length=ib at *
 have P9:=sD NJ
 have LZ:=Ny.app P9.cl
 have P8:=sD P9
 have JH:=LZ.app P8.cl
 have Q_:=sD P8
 simp only[↓WS,↓WE,↓WV,Lq,af,UU,Nat.reduceSub,↓reduceIte,↓aA ((nq (m:="rate_list") Ny.at_ (by decide +kernel) iF).trans (si Ny.at_)),↓aA ((nq (m:="half_days") LZ.at_ (by decide +kernel) iF).trans (sQ LZ.at_)),↓aA ((nq (m:="money_list") LZ.at_ (by decide +kernel) iF).trans (qw LZ)),↓aA ((nq (m:="debt_list") JH.at_ (by decide +kernel) iF).trans (sW JH)),Ka]
 have rC:cw b (s++NG++[.lst []]++[.lst []]++[.lst []]) (t6 V) [.ref (s++NG).length,.int V.h,.ref (s++NG++[AO.lst []]).length,.ref (s++NG++[AO.lst []]++[AO.lst []]).length]:=.cons (((lJ NJ.le).app _).app _) (.cons (sh _ _) (.cons ((lJ P9.le).app _) (.one (lJ P8.le))))
 have Q9:=Q_.push (show(t6 V).length<=1000 by show 4<=1000;omega) rC
 have RH:=dZ Q_.le (show(t6 V).length<=1000 by show 4<=1000;omega) rC
 obtain⟨zs,ez,RE,RG⟩:=tH ((((Qu.app _).app _).app _).app _) RH (by show 6+4<=1000;omega) Q9.le
 have Tg:=Q9.push (by show 10<=1000;omega) RE
 rw[aA ez]
 exact⟨_,by simp only[List.append_assoc];rfl,Tg,RG⟩
end
end Ro
namespace Mm
open PySem L2
def Cw (f:Nat)(st:S)(d:Dt)(v:AV):Prop:=f < st.length/\∀ o,Rp 0 (st.set f o) d v
def iQ (f:Nat)(st:S)(l:List Dt)(xs:List AV):Prop:=f < st.length/\∀ o,cw 0 (st.set f o) l xs
theorem wD {f:Nat}{st e:S}(h:f < st.length)(o:AO):(st++e).set f o=st.set f o++e:=List.set_append_left f o h
theorem Cw.app {f:Nat}{st:S}{d:Dt}{v:AV}(h:Cw f st d v)(e:S):Cw f (st++e) d v:=⟨by have:=h.1;simp;omega,λ o=>by rw[wD h.1];exact(h.2 o).app e⟩
theorem iQ.app {f:Nat}{st:S}{l:List Dt}{xs:List AV}(h:iQ f st l xs)(e:S):iQ f (st++e) l xs:=⟨by have:=h.1;simp;omega,λ o=>by rw[wD h.1];exact(h.2 o).app e⟩
theorem iQ.set {f:Nat}{st:S}{l:List Dt}{xs:List AV}(h:iQ f st l xs)(o:AO):iQ f (st.set f o) l xs:=⟨by rw[List.length_set];exact h.1,λ o'=>by rw[List.set_set];exact h.2 o'⟩
theorem iQ.GP {f:Nat}{st:S}{l:List Dt}{xs:List AV}(h:iQ f st l xs):cw 0 st l xs:=by
 have:=h.2 (st[f]'h.1)
 rwa [List.set_getElem_self]at this
theorem iQ.append {f:Nat}{st:S}{l q:List Dt}{xs ys:List AV}(h:iQ f st l xs)(k:iQ f st q ys):iQ f st (l++q) (xs++ys):=⟨h.1,λ o=>(h.2 o).append (k.2 o)⟩
theorem iQ.one {f:Nat}{st:S}{d:Dt}{v:AV}(h:Cw f st d v):iQ f st [d] [v]:=⟨h.1,λ o=>.one (h.2 o)⟩
theorem vR {f i:Nat}{st:S}{xs:List AV}(n:i≠f)(h:ak st i=some xs)(o:AO):ak (st.set f o) i=some xs:=cD (by rw[List.getElem?_set_ne (Ne.symm n)];exact aB h)
theorem C6 {f i:Nat}{st:S}{l:List Dt}{xs:List AV}(n:i≠f)(e:ak st i=some xs)(hl:l.length<=1000)(h:iQ f st l xs):Cw f st (.lst l) (.ref i):=⟨h.1,λ o=>lB (vR n e o) (Nat.zero_le _) hl (h.2 o)⟩
theorem FG {f:Nat}{st:S}{l:List Dt}{xs:List AV}(hl:l.length<=1000)(h:iQ f st l xs):Cw f (st++[.lst xs]) (.lst l) (.ref st.length):=C6 (Nat.ne_of_gt h.1) (Ro.aF st xs) hl (h.app _)
def PL (Q:Str->AV->Prop):List Str->List AV->Prop
 | [],xs=>xs=[]
 | x :: r,xs=>∃ v t,xs=v :: t/\Q x v/\PL Q r t
theorem PL.mono {Q Q':Str->AV->Prop}(k:∀ x v,Q x v->Q' x v):∀ {l:List Str}{xs:List AV},PL Q l xs->PL Q' l xs
 | [],_,h=>h
 | _ :: _,_,⟨v,t,e,h1,h2⟩=>⟨v,t,e,k _ _ h1,PL.mono k h2⟩
theorem PL.snoc {Q:Str->AV->Prop}{y:Str}{v:AV}(hv:Q y v):∀ {l:List Str}{xs:List AV},PL Q l xs->PL Q (l++[y]) (xs++[v])
 | [],_,h=>by cases h;exact⟨v,[],rfl,hv,rfl⟩
 | _ :: _,_,⟨w,t,e,h1,h2⟩=>by cases e;exact⟨w,t++[v],rfl,h1,PL.snoc hv h2⟩
theorem PL.GP {s:S}{f:Str->Dt}:∀ {l:List Str}{xs:List AV},PL (λ x v=>Rp 0 s (f x) v) l xs->cw 0 s (l.map f) xs
 | [],_,h=>by cases h;exact .nil
 | _ :: _,_,⟨w,t,e,h1,h2⟩=>by cases e;exact .cons h1 (PL.GP h2)
theorem yG {names:List Str}{i:Nat}{s:S}{elt:Ev}{x0:Option AV}{rest:En}(P:S->Str->AV->Prop)(mono:∀ st e x v,P st x v->P (st++e) x v) (hg:ak s i=some (names.map AV.str)) (c:Cl s)
  (h:∀ x∈names,∀ e,Cl (s++e)->(elt (some (.str x) :: rest) (s++e)).wp λ v s'=>∃ e',s'=s++e++e'/\Cl s'/\P s' x v) :
  (bX (gN 0) jt elt [(i,names.map AV.str)] (names.map AV.str) (x0 :: rest) s []).wp λ acc s'=>∃ e,s'=s++e/\Cl s'/\PL (P s') names acc:=by
 refine kR (λ xs acc env st=>∃ done r x e,names=done++r/\xs=r.map AV.str/\env=x :: rest/\st=s++e/\Cl st/\PL (P st) done acc) ?_ ?_ ?_ _ _ _ _ ⟨[],names,x0,[],rfl,rfl,rfl,by simp,c,rfl⟩
 ·rintro _ _ _ st ⟨_,_,_,e,_,_,_,rfl,_⟩ p hp
  rw[List.mem_singleton.mp hp]
  exact ai hg
 ·rintro acc env st ⟨done,r,x,e,e1,e2,rfl,rfl,c1,h1⟩
  cases r with
  | cons=>cases e2
  | nil=>rw[List.append_nil]at e1;subst e1;exact⟨e,rfl,c1,h1⟩
 ·rintro v r acc env st ⟨done,r',x,e,e1,e2,rfl,rfl,c1,h1⟩
  cases r' with
  | nil=>cases e2
  | cons y r'=>
   cases e2
   walk_at "w"
   refine(h y (by rw[e1];simp) e c1).mono ?_
   rintro v s' ⟨e',rfl,c2,h2⟩
   exact⟨done++[y],r',_,e++e',by rw[e1];simp,rfl,rfl,by simp,c2,PL.snoc h2 (h1.mono λ x v q=>mono _ e' x v q)⟩
theorem nB {names:List Str}{i f:Nat}{s:S}{elt:Ev}{x0:Option AV}{rest:En}(fd:Str->Dt)(hf:f < s.length)(hg:ak s i=some (names.map AV.str)) (c:Cl s)
  (h:∀ x∈names,∀ e,Cl (s++e)->(elt (some (.str x) :: rest) (s++e)).wp λ v s'=>∃ e',s'=s++e++e'/\Cl s'/\Cw f s' (fd x) v) :
  (bX (gN 0) jt elt [(i,names.map AV.str)] (names.map AV.str) (x0 :: rest) s []).wp λ acc s'=>∃ e,s'=s++e/\Cl s'/\iQ f s' (names.map fd) acc:=by
 refine(yG (λ st x v=>Cw f st (fd x) v) (λ st e x v q=>q.app e) hg c h).mono ?_
 rintro acc s' ⟨e,rfl,c1,p⟩
 exact⟨e,rfl,c1,by simp;omega,λ o=>PL.GP (p.mono λ x v q=>q.2 o)⟩
theorem append_at {s:S}{i:Nat}{xs:List AV}{v:AV}(h:ak s i=some xs)(l:xs.length < 1000):cV (.ref i) [v] s=.ok .aC (s.set i (.lst (xs++[v]))):=by
 unfold cV
 simp only[h,aq]
 rw[if_pos (bZ (by omega))]
end Mm
namespace Ro
open PySem L2 Mm
theorem mS (B:Nat)(h:Int):aV (qE B h) (.inr "people")=some (.ref (B+8)):=by rfl
theorem lZ (B:Nat)(h:Int):aV (qE B h) (.inr "works")=some (.ref (B+9)):=by rfl
theorem za (B:Nat)(h:Int):aV (qE B h) (.inr "hands")=some (.ref (B+10)):=by rfl
theorem y_ (B:Nat)(h:Int):aV (qE B h) (.inr "known")=some (.ref (B+11)):=by rfl
theorem yZ (B:Nat)(h:Int):aV (qE B h) (.inr "rates")=some (.ref (B+12)):=by rfl
theorem tX (B:Nat)(h:Int):aV (qE B h) (.inr "keeps")=some (.ref (B+13)):=by rfl
theorem CG (B:Nat)(h:Int):aV (qE B h) (.inr "half")=some (.int h):=by rfl
theorem y9 (B:Nat)(h:Int):aV (qE B h) (.inr "money")=some (.ref (B+15)):=by rfl
theorem zb (B:Nat)(h:Int):aV (qE B h) (.inr "debts")=some (.ref (B+16)):=by rfl
section
variable {B:Nat}{V W:Wl}{s:S}
theorem qi (h:At B (mid B V W) s) {x:Str}{v:AV}(e:aV (qE B W.h) (.inr x)=some v):bh (.ref (B+14)) (.str x) s=.ok v s:=xr (F8 h) e
theorem qD (h:At B (mid B V W) s) {x:Str}{v:AV}{m:Ev}{env:En}(e:aV (qE B W.h) (.inr x)=some v) (em:m env s=.ok (.ref (B+14)) s):ag bh m (mc (.str x)) env s=.ok v s:=by
 unfold ag mc
 rw[em,ay,ay]
 exact qi h e
theorem qI:∀ l:List Str,tZ (l.map AV.str)=some l
 | []=>rfl
 | x :: r=>by show(tZ (r.map AV.str)).map (x :: ·)=_;rw[qI r];rfl
theorem wB {i:Nat}{l:List Str}{m:Ev}{env:En}(h:ak s i=some (l.map AV.str)) (hl:l.length < 64)(e:m env s=.ok (.ref i) s):lO m env s=.ok ((av l).map AV.str) s:=by
 unfold lO
 rw[e,ay]
 dsimp only
 rw[h,aq,qI,aq,if_pos hl]
theorem qM {m:eG}{env:En}(e:m env s=.ok [] s):lP m env s=.ok [] s:=by
 unfold lP
 rw[e,ay]
 rfl
theorem yl {l:Lc}{m:Ev}{eS:Mt}{test:Eb}{elt:Ev}{env:En}{i:Nat}(h:ak s i=some [])(e:m env s=.ok (.ref i) s):cg l (fO m) eS test elt env s=.ok [] s:=by
 apply R.wp.eq
 simp only[↓WS,↓WE,↓WV,Lq,af,UU,Nat.reduceSub,↓reduceIte,↓aA e,↓aA (jK h)]
 have ec:∀ mM,bX eS test elt [(i,[])] [] mM s []=.ok [] s:=λ mM=>by
  unfold bX
  exact if_pos (show sR [(i,[])] s from λ p hp=>by rw[List.mem_singleton.mp hp];exact h)
 rw[aA (ec _)]
 exact⟨rfl,rfl⟩
theorem EX {i:Nat}{x:Str}{kvs:List (Key × AV)}{z:AV}{d y w:Ev}{env:En}(h:gA s i=some kvs)(e1:d env s=.ok (.ref i) s) (e2:y env s=.ok (.str x) s) (e3:w env s=.ok z s):pM d y w env s=.ok ((aV kvs (.inr x)).getD z) s:=by
 obtain⟨u,eu⟩:=Option.isSome_iff_exists.mp (pT h)
 unfold pM
 rw[e1,ay,eu,aq,e2,ay,e3,ay]
 show(need (gA s i) λ kvs=>need (fY (.str x)) λ k=>R.ok ((aV kvs k).getD z) s)=_
 rw[h];rfl
theorem mF {i:Nat}(h:ak s i=some []):bL [.ref i] s=.ok (.ref s.length) (s++[.lst []]):=by
 apply R.wp.eq
 have e:∀ {lc tg te el l},cg lc (xW (mv 0)) tg te el (some (AV.ref i) :: l) s=.ok [] s:=λ {lc tg te el l}=>by
  have e1:xW (mv 0) (some (AV.ref i) :: l) s=.ok ([],[(i,[])]) s:=by
   unfold xW
   rw[iF,ay]
   show(need ((ak s i).map λ xs=>(xs,[(i,xs)])) λ p=>R.ok (rD p.1,p.2) s)=_
   rw[h];rfl
  unfold cg
  rw[e1,ay]
  dsimp only
  rw[if_pos (show([]:List AV).length<=sizeLine from Nat.zero_le _)]
  unfold bX
  exact if_pos (show sR [(i,[])] s from λ p hp=>by rw[List.mem_singleton.mp hp];exact h)
 unfold bL gm
 simp only[↓WS,↓WE,↓WV,Lq,af,UU,Nat.reduceSub,↓reduceIte,↓aA (qM e),↓aA kB,List.length_nil,Nat.zero_le]
theorem JS {env:En}:iG (aa (mc (.int 0)) (aa (mc (.int 1)) ae)) env s=.ok (.tup [.int 0,.int 1]) s:=by
 apply R.wp.eq
 walk_at "w"
structure Bd (s:S)(f ip iw:Nat)(P Q:List AV)(L:List Dt)(items:List AV)(st:S):Prop where
 cl:Cl st
 ex:∃ e,st=s++e
 fl:s.length<=f
 hp:ak st ip=some P
 np:ip≠f
 hw:ak st iw=some Q
 nw:iw≠f
 hf:ak st f=some items
 rp:iQ f st L items
theorem zG {t:S}{l:List Dt}{xs:List AV}(o:AO)(h:cw 0 t l xs):iQ t.length (t++[o]) l xs:=⟨by simp,λ o'=>by
 have:(t++[o]).set t.length o'=t++[o']:=by rw[List.set_append_right _ _ (Nat.le_refl _)];simp
 rw[this];exact h.app _⟩
theorem Bd.append {f ip iw:Nat}{P Q acc:List AV}{L D:List Dt}{items:List AV}{st e:S}(h:Bd s f ip iw P Q L items st)(c:Cl (st++e)) (r:iQ f (st++e) D acc) (hD:D.length<=1000)(hl:items.length < 900) :
  cV (AV.ref f) [AV.ref (st++e).length] (st++e++[AO.lst acc])=.ok .aC ((st++e++[AO.lst acc]).set f (AO.lst (items++[AV.ref (st++e).length])))/\
   Bd s f ip iw P Q (L++[.lst D]) (items++[AV.ref (st++e).length]) ((st++e++[AO.lst acc]).set f (AO.lst (items++[AV.ref (st++e).length]))):=by
 have hf:ak (st++e++[AO.lst acc]) f=some items:=ai (ai h.hf)
 have c1:Cl (st++e++[AO.lst acc]):=dD c r.GP
 have p1:Cw f (st++e++[AO.lst acc]) (.lst D) (.ref (st++e).length):=FG hD r
 have r1:iQ f (st++e++[AO.lst acc]) (L++[.lst D]) (items++[AV.ref (st++e).length]):=((h.rp.app e).app _).append (.one p1)
 refine⟨Mm.append_at hf (by omega),?_⟩
 obtain⟨e0,rfl⟩:=h.ex
 exact {
  cl:=c1.set (cw.low r1.GP)
  ex:=⟨(e0++e++[AO.lst acc]).set (f - s.length) (AO.lst (items++[AV.ref (s++e0++e).length])),by rw[List.append_assoc,List.append_assoc,List.set_append_right _ _ h.fl];simp only[List.append_assoc]⟩
  fl:=h.fl
  hp:=vR h.np (ai (ai h.hp)) _
  np:=h.np
  hw:=vR h.nw (ai (ai h.hw)) _
  nw:=h.nw
  hf:=wW hf
  rp:=r1.set _ }
theorem wg (h:lW B V W s)(lp:W.ps.length < 64)(lw:W.ws.length < 64)(hk:∀ p∈W.ps,(aV W.kw (.inr p)).getD (.tup [.int 0,.int 1])=kY (W.kf p)):(bV [.ref (B+14)] s).wp λ v s'=>∃ e,s'=s++e/\Cl s'/\Rp 0 s' (told W) v:=by
 have c1:Cl (s++[.lst ((av W.ws).map AV.str)]):=dD (b:=0) h.cl (fP _ _)
 have h1:=h.app c1
 have c2:Cl (s++[.lst ((av W.ws).map AV.str)]++[.lst ((av W.ps).map AV.str)]):=dD (b:=0) c1 (fP _ _)
 have h2:=h1.app c2
 have hw:ak (s++[.lst ((av W.ws).map AV.str)]++[.lst ((av W.ps).map AV.str)]) s.length=some ((av W.ws).map AV.str):=ai (aF _ _)
 have hp:ak (s++[.lst ((av W.ws).map AV.str)]++[.lst ((av W.ps).map AV.str)]) (s++[AO.lst ((av W.ws).map AV.str)]).length=some ((av W.ps).map AV.str):=aF _ _
 unfold bV hU
 simp only[↓WS,↓WE,↓WV,Lq,af,UU,Nat.reduceSub,↓reduceIte,↓aA (rZ (eZ h.at_) (rR _ _ _) (by rw[List.map_id];exact lw) (qD h.at_ (lZ B W.h) iF)),List.map_id,↓aA (wB (bR h1.at_) lp (qD h1.at_ (mS B W.h) iF))]
 rw[List.append_assoc]at *
 generalize ([AO.lst ((av W.ws).map AV.str)]++[AO.lst ((av W.ps).map AV.str)])=e0 at *
 generalize (s++[AO.lst ((av W.ws).map AV.str)]).length=ip at *
 generalize s.length=iw at *
 clear h1 c1
 simp only[↓WS,↓WE,↓WV,Lq,af,UU,Nat.reduceSub,↓reduceIte,↓aA (jK hw)]
 refine⟨FC lw _,(kD (b:=0) Cl (λ _=>Dt.tup []) hw c2 ?_).mono ?_⟩
 ·intro x hx e ce
  simp only[↓WS,↓WE,↓WV,Lq,af,UU,Nat.reduceSub,↓reduceIte,↓aA (qi (h2.app ce).at_ (lZ B W.h)),↓aA (xr (eZ (h2.app ce).at_) (rP (iV.mp hx)))]
  exact⟨[],by simp,ce,vy (by simp) .nil⟩
 rintro iU s3 ⟨e1,rfl,c3,r3⟩
 have c4:=dD c3 r3
 have p4:=dZ (Nat.zero_le _) (jk lw _) r3
 have h4:lW B V W (s++e0++e1++[.lst iU]):=by rw[List.append_assoc];exact h2.app (by rw[<-List.append_assoc];exact c4)
 have EJ:ak (s++e0++e1++[.lst iU]) iw=some ((av W.ws).map AV.str):=ai (ai hw)
 have Bn:ak (s++e0++e1++[.lst iU]) ip=some ((av W.ps).map AV.str):=ai (ai hp)
 have rA:cw 0 (s++e0++e1++[.lst iU]) [.lst ((av W.ps).map .str),.lst ((av W.ws).map .str),.lst ((av W.ws).map λ _=>.tup [])] [.ref ip,.ref iw,.ref (s++e0++e1).length]:=.cons (lB Bn (Nat.zero_le _) (jk lp _) (fP _ _)) (.cons (lB EJ (Nat.zero_le _) (jk lw _) (fP _ _)) (.one p4))
 have D1:Bd s (s++e0++e1++[AO.lst iU]).length ip iw ((av W.ps).map AV.str) ((av W.ws).map AV.str) _ _ (s++e0++e1++[.lst iU]++[.lst [.ref ip,.ref iw,.ref (s++e0++e1).length]]):={
  cl:=dD c4 rA
  ex:=⟨_,by simp only[List.append_assoc];rfl⟩
  fl:=by simp only[List.length_append];omega
  hp:=ai Bn
  np:=Nat.ne_of_lt (List.getElem?_eq_some_iff.mp (aB Bn)).1
  hw:=ai EJ
  nw:=Nat.ne_of_lt (List.getElem?_eq_some_iff.mp (aB EJ)).1
  hf:=aF _ _
  rp:=zG _ rA }
 clear rA c4 p4 h4 EJ Bn r3 c3 h2 c2 hw hp
 generalize s++e0++e1++[AO.lst iU]++[AO.lst [.ref ip,.ref iw,.ref (s++e0++e1).length]]=GG at *
 generalize (s++e0++e1++[AO.lst iU]).length=f at *
 generalize [AV.ref ip,.ref iw,.ref (s++e0++e1).length]=O1 at *
 have QH:O1.length=3:=by have:=D1.rp.GP.length;simpa using this.symm
 have Qa:lW B V W GG:=by obtain⟨e,rfl⟩:=D1.ex;exact h.app D1.cl
 refine⟨pR D1.hf,?_⟩
 simp only[↓WS,↓WE,↓WV,Lq,af,UU,Nat.reduceSub,↓reduceIte,↓aA (jK D1.hp)]
 refine⟨FC lp _,(nB (f:=f) (λ _=>Dt.lst []) D1.rp.1 D1.hp D1.cl ?_).mono ?_⟩
 ·intro x hx e ce
  have b:=Qa.app ce
  have en:∀ l,lP (cg [("_law_one",none),("_law_person",some 0)] (fO (ag bh (mv 1) (mc (.str "hands")))) (gN 0) (cB (ag dQ (ag br (mv 0) (mc (.int 0))) (mv 1))) (Es (mv 0) (oS (mc (.int 1))) oN)) (some (.str x) :: some (.ref (B+14)) :: l) (GG++e)=.ok [] (GG++e):=λ l=>qM (yl (Ba b.at_) (qD b.at_ (za B W.h) mz))
  simp only[↓WS,↓WE,↓WV,Lq,af,UU,Nat.reduceSub,↓reduceIte,↓aA (en _)]
  exact⟨_,rfl,pH ce,(FG (by simp) ⟨(D1.rp.app e).1,λ o=>.nil⟩:Cw f (GG++e++[.lst []]) (.lst []) _)⟩
 rintro hl s5 ⟨e3,rfl,c5,r5⟩
 obtain⟨ea,D2⟩:=D1.append c5 r5 (jk lp _) (by omega)
 rw[aA ea]
 clear ea r5 c5 Qa
 generalize (GG++e3++[AO.lst hl]).set f (.lst (O1++[.ref (GG++e3).length]))=Ci at *
 generalize ES:O1++[AV.ref (GG++e3).length]=O0 at *
 have QG:O0.length=4:=by rw[<-ES];simp[QH]
 clear ES QH D1
 have P':lW B V W Ci:=by obtain⟨e,rfl⟩:=D2.ex;exact h.app D2.cl
 refine⟨pR D2.hf,?_⟩
 simp only[↓WS,↓WE,↓WV,Lq,af,UU,Nat.reduceSub,↓reduceIte,↓aA (jK D2.hw)]
 refine⟨FC lw _,(nB (f:=f) (λ _=>Dt.aC) D2.rp.1 D2.hw D2.cl ?_).mono ?_⟩
 ·intro x hx e ce
  have b:=P'.app ce
  rw[aA (xi (x:=x) (BV b.at_) (qD b.at_ (y_ B W.h) mz) iF)]
  exact⟨[],by simp,ce,⟨(D2.rp.app e).1,λ o=>zI _⟩⟩
 rintro kl s6 ⟨e4,rfl,c6,r6⟩
 obtain⟨ea,D3⟩:=D2.append c6 r6 (jk lw _) (by omega)
 rw[aA ea]
 clear ea r6 c6 P'
 generalize (Ci++e4++[AO.lst kl]).set f (.lst (O0++[.ref (Ci++e4).length]))=CT at *
 generalize QS:O0++[AV.ref (Ci++e4).length]=OZ at *
 have RV:OZ.length=5:=by rw[<-QS];simp[QG]
 clear QS QG D2
 have Ra:lW B V W CT:=by obtain⟨e,rfl⟩:=D3.ex;exact h.app D3.cl
 refine⟨pR D3.hf,?_⟩
 simp only[↓WS,↓WE,↓WV,Lq,af,UU,Nat.reduceSub,↓reduceIte,↓aA (jK D3.hp)]
 refine⟨FC lp _,(nB (f:=f) (λ p=>Dt.tup [.int (W.kf p).1,.int (W.kf p).2]) D3.rp.1 D3.hp D3.cl ?_).mono ?_⟩
 ·intro x hx e ce
  have b:=Ra.app ce
  rw[aA (EX (x:=x) (F9 b.at_) (qD b.at_ (tX B W.h) mz) iF JS),hk x (iV.mp hx)]
  exact⟨[],by simp,ce,⟨(D3.rp.app e).1,λ o=>zJ _ _⟩⟩
 rintro ql s7 ⟨e5,rfl,c7,r7⟩
 obtain⟨ea,D4⟩:=D3.append c7 r7 (jk lp _) (by omega)
 rw[aA ea]
 clear ea r7 c7 Ra
 generalize (CT++e5++[AO.lst ql]).set f (.lst (OZ++[.ref (CT++e5).length]))=Oc at *
 generalize OZ++[AV.ref (CT++e5).length]=TF at *
 clear RV D3
 obtain⟨ex,rfl⟩:=D4.ex
 have b4:lW B V W (s++ex):=h.app D4.cl
 have b5:=b4.app (pH b4.cl)
 have e1:lO (ag bh (mv 0) (mc (.str "rates"))) [some (.ref (B+14)),some (.ref f),some (.ref iw),some (.ref ip)] (s++ex)=.ok [] (s++ex):=wB (l:=[]) (A9 b4.at_) (by decide) (qD b4.at_ (yZ B W.h) iF)
 rw[aA e1,aA (qi b5.at_ (CG B W.h))]
 have r5:cw 0 (s++ex++[.lst []]) [.lst [],.int W.h] [.ref (s++ex).length,.int W.h]:=.cons (lJ (Nat.zero_le _)) (.one (sh _ _))
 have p5:Rp 0 (s++ex++[.lst []]) _ (.ref f):=lB (ai D4.hf) (Nat.zero_le _) (by show 6<=1000;omega) (D4.rp.GP.app _)
 obtain⟨ys,ey,r6,p6⟩:=tH (p5.app [.lst [.ref (s++ex).length,.int W.h]]) (dZ (Nat.zero_le _) (by show 2<=1000;omega) r5) (by show 6+2<=1000;omega) (Nat.zero_le _)
 have c6:=dD (dD b5.cl r5) r6
 rw[aA ey]
 have b6:lW B V W (s++ex++[.lst []]++[.lst [.ref (s++ex).length,.int W.h]]++[.lst ys]):=(b5.app (dD b5.cl r5)).app c6
 clear ey D4 p5 r6 r5 e1 b5
 generalize Sf:s++ex++[AO.lst []]++[AO.lst [.ref (s++ex).length,.int W.h]]++[AO.lst ys]=s6 at *
 generalize (s++ex++[AO.lst []]++[AO.lst [.ref (s++ex).length,.int W.h]]).length=k6 at *
 have c7:=pH c6
 have b7:=b6.app c7
 have c8:=pH c7
 rw[aA (qi b6.at_ (y9 B W.h)),aA (mF (Lh b6.at_))]
 dsimp only
 rw[aF,aq,List.take_left,if_pos ⟨Nat.le_refl _,c6,by simp[aR]⟩,oW,aA (qi b7.at_ (zb B W.h)),aA (mF (Li b7.at_))]
 dsimp only
 rw[aF,aq,List.take_left,if_pos ⟨Nat.le_refl _,c7,by simp[aR]⟩,oW]
 have r8:cw 0 (s6++[.lst []]++[.lst []]) [.lst [],.lst []] [.ref s6.length,.ref (s6++[AO.lst []]).length]:=.cons ((lJ (Nat.zero_le _)).app _) (.one (lJ (Nat.zero_le _)))
 obtain⟨zs,ez,r9,p9⟩:=tH (((p6.app [.lst []]).app [.lst []]).app [.lst [.ref s6.length,.ref (s6++[AO.lst []]).length]]) (dZ (Nat.zero_le _) (by show 2<=1000;omega) r8) (by show 8+2<=1000;omega) (Nat.zero_le _)
 have c9:=dD (dD c8 r8) r9
 rw[aA ez]
 have hx:∃ e,s6++[.lst []]++[.lst []]++[.lst [.ref s6.length,.ref (s6++[AO.lst []]).length]]++[.lst zs]=s++e:=by
  rw[<-Sf]
  simp only[List.append_assoc]
  exact⟨_,rfl⟩
 obtain⟨e,he⟩:=hx
 exact⟨e,he,c9,p9⟩
end
inductive De where
 | half (d:Int)|keep (x:Str) (a:Int × Int)|person (x:Str)|work (x:Str)
def dv:De->AV
 | .half d=>.tup [.str "half",.int d]
 | .keep x a=>.tup [.str "keep",.str x,kY a]
 | .person x=>.tup [.str "person",.str x]
 | .work x=>.tup [.str "work",.str x]
def i6 (W:Wl):De->Str
 | .half _=>""
 | .keep x _=>if x∈W.ps then "" else "name"
 | .person x=>if x∈W.ps∨x∈W.ws then "taken" else ""
 | .work x=>if x∈W.ps∨x∈W.ws then "taken" else ""
def gI (W:Wl):De->Wl
 | .half d=>{ W with h:=d }
 | .keep x a=>if x∈W.ps then { W with kf:=λ p=>if p=x then a else W.kf p,kw:=eO W.kw (.inr x) (kY a) } else W
 | .person x=>if x∈W.ps∨x∈W.ws then W else { W with ps:=W.ps++[x] }
 | .work x=>if x∈W.ps∨x∈W.ws then W else { W with ws:=W.ws++[x] }
structure yL (n:Nat)(W:Wl):Prop where
 k0:∀ x,x∉W.ps->W.kf x=(0,1)
 kw:∀ p,(aV W.kw (.inr p)).getD (.tup [.int 0,.int 1])=kY (W.kf p)
 kf:∀ e∈W.kw,∃ a,e.2=kY a
 lp:W.ps.length<=n
 lw:W.ws.length<=n
 lk:W.kw.length<=n
theorem WQ:((Str.ofString "keep"=Str.ofString "half")=False)/\((Str.ofString "person"=Str.ofString "half")=False)/\((Str.ofString "work"=Str.ofString "half")=False)/\((Str.ofString "person"=Str.ofString "keep")=False)/\((Str.ofString "work"=Str.ofString "keep")=False)/\((Str.ofString "work"=Str.ofString "person")=False)/\
  ((Str.ofString "half"=Str.ofString "person")=False)/\((Str.ofString "keep"=Str.ofString "person")=False)/\((Str.ofString "half"=Str.ofString "work")=False)/\((Str.ofString "keep"=Str.ofString "work")=False)/\((Str.ofString "half"=Str.ofString "keep")=False):=by
 refine⟨?_,?_,?_,?_,?_,?_,?_,?_,?_,?_,?_⟩<;>exact eq_false (by decide +kernel)
theorem sM (x:Str):∀ l:List Str,Nm (.str x) (l.map AV.str)=decide (x∈l)
 | []=>rfl
 | y :: r=>by
  have ih:=sM x r
  unfold Nm Nl at ih ⊢
  rw[List.map_cons,List.map_cons,List.any_cons,ih]
  show(iK (V.str y) (V.str x) || decide (x∈r))=_
  have:iK (V.str y) (V.str x)=decide (x=y):=by
   unfold iK
   by_cases h:x=y
   ·subst h;simp
   ·have:¬ y=x:=λ e=>h e.symm
    simp[h,this]
  rw[this]
  by_cases h:x=y<;>by_cases h2:x∈r<;>simp[h,h2]
theorem BD:∀ l:List Str,(l.map AV.str).all kr=true
 | []=>rfl
 | i :: r=>by rw[List.map_cons,List.all_cons,BD r];rfl
section
variable {B:Nat}{V W:Wl}{s:S}
theorem pV {i:Nat}{l:List Str}{x:Str}(h:ak s i=some (l.map AV.str)):qq (.str x) (.ref i) s=.ok (.bl (decide (x∈l))) s:=by
 unfold qq
 show need (ak s i) _=_
 rw[h,aq,if_pos ⟨rfl,BD l⟩,sM]
theorem Ay {i:Nat}{l:List Str}{x:Str}(h:ak s i=some (l.map AV.str)):qR (.str x) (.ref i) s=.ok (.bl (!decide (x∈l))) s:=by
 unfold qR
 show need (ak s i) _=_
 rw[h,aq,if_pos ⟨rfl,BD l⟩,sM]
theorem zM (B:Nat)(h d:Int):eO (qE B h) (.inr "half") (.int d)=qE B d:=by rfl
theorem yp {a:AV}{l:List AV}:br (.tup (a :: l)) (.int 0) s=.ok a s:=by
 show(need (jD (a :: l) 0) λ v=>R.ok v s)=_
 rw[show jD (a :: l) 0=some a from Lq.2.2.2.2.1 a l];rfl
theorem yO {a b:AV}{l:List AV}:br (.tup (a :: b :: l)) (.int 1) s=.ok b s:=by
 show(need (jD (a :: b :: l) 1) λ v=>R.ok v s)=_
 rw[show jD (a :: b :: l) 1=some b from Lq.2.2.2.2.2.1 a b l];rfl
theorem OY {a b c:AV}{l:List AV}:br (.tup (a :: b :: c :: l)) (.int 2) s=.ok c s:=by
 show(need (jD (a :: b :: c :: l) 2) λ v=>R.ok v s)=_
 rw[show jD (a :: b :: c :: l) 2=some c from Lq.2.2.2.2.2.2.1 a b c l];rfl
structure JN (B:Nat)(s s':S):Prop where
 len:s'.length=s.length
 get:∀ i,i < B∨B+17<=i->s'[i]? = s[i]?
 cl:Cl s'
 tab:s'.any (tabAt 20 hX)=true
theorem kE (h:lW B V W s):JN B s s:=⟨rfl,λ _ _=>rfl,h.cl,h.tab⟩
theorem Fo {s:S}{i:Nat}{o o':AO}(h:s.any (tabAt 20 hX)=true) (e:s[i]? = some o)(n:tabAt 20 hX o=false):(s.set i o').any (tabAt 20 hX)=true:=by
 obtain⟨x,hx,ht⟩:=List.any_eq_true.mp h
 obtain⟨j,hj,ej⟩:=List.getElem_of_mem hx
 have qf:i≠j:=by
  rintro rfl
  rw[List.getElem?_eq_getElem hj,ej]at e
  cases e
  rw[n]at ht;cases ht
 refine List.any_eq_true.mpr ⟨x,?_,ht⟩
 have:(s.set i o')[j]? = some x:=by rw[List.getElem?_set_ne qf,List.getElem?_eq_getElem hj,ej]
 exact List.mem_of_getElem? this
theorem iz (h:lW B V W s){i:Nat}{o o':AO}(hi:i < 17)(e:(mid B V W)[i]? = some o) (n:tabAt 20 hX o=false)(l:o'.low s.length=true):JN B s (s.set (B+i) o'):=
 ⟨List.length_set,λ j hj=>List.getElem?_set_ne (by omega),h.cl.set l,Fo h.tab (h.at_.at e) n⟩
theorem j8 {g:Str->AV}{b:Nat}(h:∀ x,(g x).low b=true):∀ l:List Str,aR b ((kT id g l).map (·.2))=true
 | []=>by simp[kT,aR]
 | x :: r=>by
  show aR b (g x :: (kT id g r).map (·.2))=true
  simp only[aR,h x,j8 h r];rfl
theorem kK (b:Nat)(a:Int × Int):(kY a).low b=true:=by simp[kY,AV.low,aR]
theorem j9 {b:Nat}:∀ {l:List AV},(∀ v∈l,v.low b=true)->aR b l=true
 | [],_=>by simp[aR]
 | v :: r,h=>by simp only[aR,h v (.head _),j9 λ w hw=>h w (.tail _ hw)];rfl
theorem wU {κ:Type} [DecidableEq κ] {k:κ}{v:AV}{l:List (κ × AV)}{e:κ × AV}(h:e∈eO l k v):e.2=v∨e∈l:=by
 unfold eO at h
 split at h
 ·obtain⟨x,hx,rfl⟩:=List.mem_map.mp h
  split
  ·exact .inl rfl
  ·exact .inr hx
 ·rcases List.mem_append.mp h with h|h
  ·exact .inr h
  ·rw[List.mem_singleton.mp h];exact .inl rfl
theorem BO (h:lW B V W s){n:Nat}(ok:yL n W)(hn:n < 60)(d:De):(eJ [.ref (B+14),dv d] s).wp λ v s'=>v=.str (i6 W d)/\lW B V (gI W d) s'/\JN B s s':=by
 have hL:=h.at_.len (by show 0 < 17;omega)
 have hL:B+17<=s.length:=hL
 have g1:=qi h.at_ (mS B W.h)
 have g2:=qi h.at_ (lZ B W.h)
 unfold eJ lV
 cases d with
 | half d=>
  unfold dv
  simp only[↓WS,↓WE,↓WV,Lq,af,UU,Nat.reduceSub,↓reduceIte,↓aA g1,↓aA g2,↓aA yp,↓aA yO,decide_true,↓qg (jT (F8 h.at_) (by show 9 < 1000;omega)),zM]
  have lo:(AO.dK (qE B d)).low s.length=true:=by
   simp[AO.low,qE,aR,AV.low];omega
  have c:=iz h (i:=14) (o':=.dK (qE B d)) (by omega) rfl rfl lo
  exact⟨rfl,⟨h.at_.set 14 _,c.cl,c.tab⟩,c⟩
 | keep x a=>
  unfold dv
  by_cases hx:x∈W.ps
  ·have g3:=qi h.at_ (tX B W.h)
   simp only[↓WS,↓WE,↓WV,Lq,af,UU,Nat.reduceSub,↓reduceIte,↓aA g1,↓aA g2,↓aA yp,↓aA yO,↓aA OY,WQ,decide_false,decide_true,↓aA (Ay (bR h.at_)),hx,Bool.not_true,↓aA g3,↓qg (jT (F9 h.at_) (by have:=ok.lk;omega))]
   have lo:(AO.dK (eO W.kw (.inr x) (kY a))).low s.length=true:=by
    refine j9 λ v hv=>?_
    obtain⟨e,he,rfl⟩:=List.mem_map.mp hv
    rcases wU he with z|z
    ·rw[z];exact kK _ _
    ·obtain⟨b,eb⟩:=ok.kf e z
     rw[eb];exact kK _ _
   have c:=iz h (i:=13) (o':=.dK (eO W.kw (.inr x) (kY a))) (by omega) rfl rfl lo
   refine⟨by simp[i6,hx],?_,c⟩
   have:gI W (.keep x a)={ W with kf:=λ p=>if p=x then a else W.kf p,kw:=eO W.kw (.inr x) (kY a) }:=if_pos hx
   rw[this]
   exact⟨h.at_.set 13 _,c.cl,c.tab⟩
  ·simp only[↓WS,↓WE,↓WV,Lq,af,UU,Nat.reduceSub,↓reduceIte,↓aA g1,↓aA g2,↓aA yp,↓aA yO,↓aA OY,WQ,decide_false,decide_true,↓aA (Ay (bR h.at_)),hx,Bool.not_false]
   have:gI W (.keep x a)=W:=if_neg hx
   rw[this]
   exact⟨by simp[i6,hx],h,kE h⟩
 | person x=>
  unfold dv
  by_cases hx:x∈W.ps∨x∈W.ws
  ·have hd:gI W (.person x)=W:=if_pos hx
   rw[hd]
   by_cases hp:x∈W.ps
   ·simp only[↓WS,↓WE,↓WV,Lq,af,UU,Nat.reduceSub,↓reduceIte,↓aA g1,↓aA g2,↓aA yp,↓aA yO,WQ,decide_false,decide_true,↓aA (pV (bR h.at_)),hp]
    exact⟨by simp[i6,hx],h,kE h⟩
   ·have hw:x∈W.ws:=hx.resolve_left hp
    simp only[↓WS,↓WE,↓WV,Lq,af,UU,Nat.reduceSub,↓reduceIte,↓aA g1,↓aA g2,↓aA yp,↓aA yO,WQ,decide_false,decide_true,↓aA (pV (bR h.at_)),hp,↓aA (kA (eZ h.at_)),eV,hw]
    exact⟨by simp[i6,hx],h,kE h⟩
  ·have hp:x∉W.ps:=λ z=>hx (.inl z)
   have hw:x∉W.ws:=λ z=>hx (.inr z)
   simp only[↓WS,↓WE,↓WV,Lq,af,UU,Nat.reduceSub,↓reduceIte,↓aA g1,↓aA g2,↓aA yp,↓aA yO,WQ,decide_false,decide_true,↓aA (pV (bR h.at_)),hp,↓aA (kA (eZ h.at_)),eV,hw,pR (bR h.at_),↓aA (Mm.append_at (v:=.str x) (bR h.at_) (by rw[List.length_map];have:=ok.lp;omega))]
   have lo:(AO.lst (W.ps.map AV.str++[.str x])).low s.length=true:=by
    have:=cf s.length (W.ps++[x])
    rw[List.map_append]at this;exact this
   have c:=iz h (i:=8) (o':=.lst (W.ps.map AV.str++[.str x])) (by omega) rfl rfl lo
   have hd:gI W (.person x)={ W with ps:=W.ps++[x] }:=if_neg hx
   rw[hd]
   refine⟨by simp[i6,hp,hw],⟨?_,c.cl,c.tab⟩,c⟩
   have:=h.at_.set 8 (.lst (W.ps.map AV.str++[.str x]))
   rw[show(mid B V W).set 8 (.lst (W.ps.map AV.str++[.str x]))=mid B V { W with ps:=W.ps++[x] } by unfold mid;simp]at this
   exact this
 | work x=>
  unfold dv
  by_cases hx:x∈W.ps∨x∈W.ws
  ·have hd:gI W (.work x)=W:=if_pos hx
   rw[hd]
   by_cases hp:x∈W.ps
   ·simp only[↓WS,↓WE,↓WV,Lq,af,UU,Nat.reduceSub,↓reduceIte,↓aA g1,↓aA g2,↓aA yp,↓aA yO,WQ,decide_false,decide_true,↓aA (pV (bR h.at_)),hp]
    exact⟨by simp[i6,hx],h,kE h⟩
   ·have hw:x∈W.ws:=hx.resolve_left hp
    simp only[↓WS,↓WE,↓WV,Lq,af,UU,Nat.reduceSub,↓reduceIte,↓aA g1,↓aA g2,↓aA yp,↓aA yO,WQ,decide_false,decide_true,↓aA (pV (bR h.at_)),hp,↓aA (kA (eZ h.at_)),eV,hw]
    exact⟨by simp[i6,hx],h,kE h⟩
  ·have hp:x∉W.ps:=λ z=>hx (.inl z)
   have hw:x∉W.ws:=λ z=>hx (.inr z)
   simp only[↓WS,↓WE,↓WV,Lq,af,UU,Nat.reduceSub,↓reduceIte,↓aA g1,↓aA g2,↓aA yp,↓aA yO,WQ,decide_false,decide_true,↓aA (pV (bR h.at_)),hp,↓aA (kA (eZ h.at_)),eV,hw,↓qg (jT (eZ h.at_) (by rw[sJ];have:=ok.lw;omega)),mY (g:=λ _=>AV.tup []) hw rfl]
   have lo:(AO.dK (kT id (λ _=>.tup []) (W.ws++[x]))).low s.length=true:=j8 (λ _=>by simp[AV.low,aR]) _
   have c:=iz h (i:=9) (o':=.dK (kT id (λ _=>.tup []) (W.ws++[x]))) (by omega) rfl rfl lo
   have hd:gI W (.work x)={ W with ws:=W.ws++[x] }:=if_neg hx
   rw[hd]
   exact⟨by simp[i6,hp,hw],⟨h.at_.set 9 _,c.cl,c.tab⟩,c⟩
theorem xq {n:Nat}(ok:yL n W)(d:De):yL (n+1) (gI W d):=by
 have up:yL (n+1) W:=⟨ok.k0,ok.kw,ok.kf,by have:=ok.lp;omega,by have:=ok.lw;omega,by have:=ok.lk;omega⟩
 cases d with
 | half d=>exact⟨up.k0,up.kw,up.kf,up.lp,up.lw,up.lk⟩
 | keep x a=>
  by_cases hx:x∈W.ps
  ·have:gI W (.keep x a)={ W with kf:=λ p=>if p=x then a else W.kf p,kw:=eO W.kw (.inr x) (kY a) }:=if_pos hx
   rw[this]
   refine⟨λ y hy=>?_,λ p=>?_,λ e he=>?_,up.lp,up.lw,Nat.le_trans (ug _ _ _) (by have:=ok.lk;omega)⟩
   ·show(if y=x then a else W.kf y)=_
    rw[if_neg (λ z:y=x=>hy (by rw[z];exact hx))];exact ok.k0 y hy
   ·show(aV (eO W.kw (.inr x) (kY a)) (.inr p)).getD _=kY (if p=x then a else W.kf p)
    rw[zl]
    by_cases hp:p=x
    ·subst hp;rw[if_pos rfl,if_pos rfl];rfl
    ·rw[if_neg (λ z=>hp (Sum.inr.inj z).symm),if_neg hp];exact ok.kw p
   ·rcases wU he with z|z
    ·exact⟨a,z⟩
    ·exact ok.kf e z
  ·have:gI W (.keep x a)=W:=if_neg hx
   rw[this];exact up
 | person x=>
  by_cases hx:x∈W.ps∨x∈W.ws
  ·have hd:gI W (.person x)=W:=if_pos hx
   rw[hd];exact up
  ·have hd:gI W (.person x)={ W with ps:=W.ps++[x] }:=if_neg hx
   rw[hd]
   exact⟨λ y hy=>ok.k0 y λ z=>hy (List.mem_append_left _ z),ok.kw,ok.kf,by show(W.ps++[x]).length<=_;simp;have:=ok.lp;omega,up.lw,up.lk⟩
 | work x=>
  by_cases hx:x∈W.ps∨x∈W.ws
  ·have hd:gI W (.work x)=W:=if_pos hx
   rw[hd];exact up
  ·have hd:gI W (.work x)={ W with ws:=W.ws++[x] }:=if_neg hx
   rw[hd]
   exact⟨ok.k0,ok.kw,ok.kf,up.lp,by show(W.ws++[x]).length<=_;simp;have:=ok.lw;omega,up.lk⟩
end
end Ro
namespace Mm
open PySem L2
theorem BZ {eS:Mt}{test:Eb}{elt:Ev}{v x:AV}{r:List AV}{env e1:En}{s:S}{acc:List AV}(h1:eS v env s=.nx e1 s)(h2:test e1 s=.ok true s)(h3:elt e1 s=.ok x s):bX eS test elt [] (v :: r) env s acc=bX eS test elt [] r e1 s (acc++[x]):=by
 rw[bX,if_pos (show sR [] s from λ p hp=>nomatch hp),h1]
 dsimp only
 rw[h2]
 show(if true=true then (elt e1 s).calm.bind λ x s3=>bX eS test elt [] r e1 s3 (acc++[x]) else bX eS test elt [] r e1 s acc)=_
 rw[if_pos rfl,h3]
 rfl
theorem kC {eS:Mt}{test:Eb}{elt:Ev}{v:AV}{r:List AV}{env e1:En}{s:S}{acc:List AV}(h1:eS v env s=.nx e1 s)(h2:test e1 s=.ok false s):bX eS test elt [] (v :: r) env s acc=bX eS test elt [] r e1 s acc:=by
 rw[bX,if_pos (show sR [] s from λ p hp=>nomatch hp),h1]
 dsimp only
 rw[h2]
 show(if false=true then (elt e1 s).calm.bind λ x s3=>bX eS test elt [] r e1 s3 (acc++[x]) else bX eS test elt [] r e1 s acc)=_
 rw[if_neg (by decide)]
theorem nu {ans:Nat->Option Bool}{i c:Nat}{b:Bool}{s:S}(h:s[i]? = some (.exc c)) (e:ans c=some b):bH ans (.ref i) s=.ok (.bl b) s:=by
 unfold bH
 simp only[h,e,aq]
theorem A6 {F:List AV->S->R AV}{a b:Ev}{env:En}{s:S}{v w:AV}(h1:a env s=.ok v s)(h2:b env s=.ok w s):aE 2 F (aa a (aa b ae)) env s=F [v,w] s:=by
 unfold aE aa ae
 rw[h1,ay,h2,ay]
 rfl
end Mm
namespace Ro
open PySem L2 Mm
def De.nm:De->Prop
 | .half _=>True
 | .keep x _=>x.length<=1000
 | .person x=>x.length<=1000
 | .work x=>x.length<=1000
section
variable {B:Nat}{V W:Wl}{s:S}
theorem IG {a:Option AV}{x y:AV}{l:List AV}{env:En}:ag br (mv 1) (mc (.int 1)) (a :: some (.tup (x :: y :: l)) :: env) s=.ok y s:=by
 rw[ag,mz,ay]
 exact yO
theorem uR (h:lW B V W s){n:Nat}(ok:yL n V)(hn:n < 60)(d:De)(hd:d.nm):(i6 V d=""/\∃ s',bC [.ref B,dv d] s=.ok .aC s'/\lW B (gI V d) W s'/\JN B s s')∨(∃ c,(c=2/\i6 V d="taken"∨c=3/\i6 V d="name")/\gI V d=V/\bC [.ref B,dv d] s=.ex ⟨c,[]⟩ s):=by
 have hL:B+17<=s.length:=h.at_.len (by show 0 < 17;omega)
 have lp:=ok.lp
 have lw:=ok.lw
 cases d with
 | half d=>
  left
  refine⟨rfl,s.set B (.ins 9 (n6 B d)),?_,?_⟩
  ·apply R.wp.eq
   unfold bC dH dv
   simp only[↓WS,↓WE,↓WV,Lq,af,UU,Nat.reduceSub,↓reduceIte,↓aA yp,↓aA yO,WQ,decide_false,↓aA ((dh (m:="put_half") (F:=bN) (mo:=mv 0) (ma:=ag br (mv 1) (mc (.int 1))) h.at_ (by decide +kernel) iF IG).trans (uf h.at_ d))]
  ·have lo:(AO.ins 9 (n6 B d)).low s.length=true:=by
    simp[AO.low,n6,aR,AV.low];omega
   have c:=iz h (i:=0) (o':=.ins 9 (n6 B d)) (by omega) rfl rfl lo
   exact⟨⟨h.at_.set 0 _,c.cl,c.tab⟩,c⟩
 | keep x a=>
  have em:∀ F:List AV->S->R AV,aI 9 "put_keep" 2 F (mv 0) (aa (ag br (mv 1) (mc (.int 1))) (aa (ag br (mv 1) (mc (.int 2))) ae)) [some (.ref B),some (dv (.keep x a))] s=F [.ref B,.str x,kY a] s:=λ F=>by
   unfold aI aa ae dv
   rw[iF,ay,jm (fA h.at_)]
   dsimp only[need]
   rw[if_pos (xl B V.h (by decide +kernel)),ag,mz,ay,show(mc (.int 1):Ev) _ _=.ok (.int 1) s from rfl,ay,yO,ay,ag,mz,ay,show(mc (.int 2):Ev) _ _=.ok (.int 2) s from rfl,ay,OY]
   rfl
  have ec:∀ a' b' c' d':Ms,(gF (cB (ag dQ (ag br (mv 1) (mc (.int 0))) (mc (.str "person")))) a' (gF (cB (ag dQ (ag br (mv 1) (mc (.int 0))) (mc (.str "work")))) b' (gF (cB (ag dQ (ag br (mv 1) (mc (.int 0))) (mc (.str "keep")))) c' d'))) [some (.ref B),some (dv (.keep x a))] s=c' [some (.ref B),some (dv (.keep x a))] s:=λ a' b' c' d'=>by
   rw[jF (s1:=s) (R.wp.eq ?_),jF (s1:=s) (R.wp.eq ?_),om (s1:=s) (R.wp.eq ?_)]
   all_goals (unfold dv;simp only[↓WS,↓WE,↓WV,Lq,af,UU,Nat.reduceSub,↓reduceIte,↓aA yp,WQ,decide_false,decide_true])
  by_cases hx:x∈V.ps
  ·left
   have hw:gI V (.keep x a)={ V with kf:=λ p=>if p=x then a else V.kf p,kw:=eO V.kw (.inr x) (kY a) }:=if_pos hx
   refine⟨by simp[i6,hx],s.set (B+1) (.dK (kT id (λ p=>kY (if p=x then a else V.kf p)) V.ps)),?_,?_⟩
   ·unfold bC dH
    exact p0 (env:=[some (.ref B),some (dv (.keep x a))]) ((ec _ _ _ _).trans (iy ((em _).trans (sk h.at_ hx (by omega)))))
   ·have lo:(AO.dK (kT id (λ p=>kY (if p=x then a else V.kf p)) V.ps)).low s.length=true:=j8 (λ _=>kK _ _) _
    have c:=iz h (i:=1) (o':=.dK (kT id (λ p=>kY (if p=x then a else V.kf p)) V.ps)) (by omega) rfl rfl lo
    rw[hw]
    exact⟨⟨h.at_.set 1 _,c.cl,c.tab⟩,c⟩
  ·right
   refine⟨3,.inr ⟨rfl,by simp[i6,hx]⟩,if_neg hx,?_⟩
   unfold bC dH
   exact i4 (env:=[some (.ref B),some (dv (.keep x a))]) ((ec _ _ _ _).trans (cR ((em _).trans (ue h.at_ hd hx))))
 | person x=>
  have ec:∀ a' b':Ms,(gF (cB (ag dQ (ag br (mv 1) (mc (.int 0))) (mc (.str "person")))) a' b') [some (.ref B),some (dv (.person x))] s=a' [some (.ref B),some (dv (.person x))] s:=λ a' b'=>by
   rw[om (s1:=s) (R.wp.eq ?_)]
   unfold dv;simp only[↓WS,↓WE,↓WV,Lq,af,UU,Nat.reduceSub,↓reduceIte,↓aA yp,decide_true]
  have em:∀ F:List AV->S->R AV,aI 9 "add_person" 1 F (mv 0) (aa (ag br (mv 1) (mc (.int 1))) ae) [some (.ref B),some (dv (.person x))] s=F [.ref B,.str x] s:=λ F=>dh h.at_ (by decide +kernel) iF IG
  by_cases hx:x∈V.ps∨x∈V.ws
  ·right
   refine⟨2,.inl ⟨rfl,by simp[i6,hx]⟩,if_pos hx,?_⟩
   unfold bC dH
   exact i4 (env:=[some (.ref B),some (dv (.person x))]) ((ec _ _).trans (cR ((em _).trans (qB h.at_ hd hx))))
  ·left
   have hw:gI V (.person x)={ V with ps:=V.ps++[x] }:=if_neg hx
   refine⟨if_neg hx,s.set (B+1) (.dK (kT id (λ p=>kY (V.kf p)) (V.ps++[x]))),?_,?_⟩
   ·unfold bC dH
    exact p0 (env:=[some (.ref B),some (dv (.person x))]) ((ec _ _).trans (iy ((em _).trans (qe h.at_ hx (by omega) (ok.k0 x λ z=>hx (.inl z))))))
   ·have lo:(AO.dK (kT id (λ p=>kY (V.kf p)) (V.ps++[x]))).low s.length=true:=j8 (λ _=>kK _ _) _
    have c:=iz h (i:=1) (o':=.dK (kT id (λ p=>kY (V.kf p)) (V.ps++[x]))) (by omega) rfl rfl lo
    rw[hw]
    exact⟨⟨h.at_.set 1 _,c.cl,c.tab⟩,c⟩
 | work x=>
  have ec:∀ a' b' c':Ms,(gF (cB (ag dQ (ag br (mv 1) (mc (.int 0))) (mc (.str "person")))) a' (gF (cB (ag dQ (ag br (mv 1) (mc (.int 0))) (mc (.str "work")))) b' c')) [some (.ref B),some (dv (.work x))] s=b' [some (.ref B),some (dv (.work x))] s:=λ a' b' c'=>by
   rw[jF (s1:=s) (R.wp.eq ?_),om (s1:=s) (R.wp.eq ?_)]
   all_goals (unfold dv;simp only[↓WS,↓WE,↓WV,Lq,af,UU,Nat.reduceSub,↓reduceIte,↓aA yp,WQ,decide_false,decide_true])
  have em:∀ F:List AV->S->R AV,aI 9 "add_work" 1 F (mv 0) (aa (ag br (mv 1) (mc (.int 1))) ae) [some (.ref B),some (dv (.work x))] s=F [.ref B,.str x] s:=λ F=>dh h.at_ (by decide +kernel) iF IG
  by_cases hx:x∈V.ps∨x∈V.ws
  ·right
   refine⟨2,.inl ⟨rfl,by simp[i6,hx]⟩,if_pos hx,?_⟩
   unfold bC dH
   exact i4 (env:=[some (.ref B),some (dv (.work x))]) ((ec _ _ _).trans (cR ((em _).trans (vc h.at_ hd hx))))
  ·left
   have hw:gI V (.work x)={ V with ws:=V.ws++[x] }:=if_neg hx
   refine⟨if_neg hx,s.set (B+2) (.dK (kT id (λ _=>.tup []) (V.ws++[x]))),?_,?_⟩
   ·unfold bC dH
    exact p0 (env:=[some (.ref B),some (dv (.work x))]) ((ec _ _ _).trans (iy ((em _).trans (tF h.at_ hx (by omega)))))
   ·have lo:(AO.dK (kT id (λ _=>.tup []) (V.ws++[x]))).low s.length=true:=j8 (λ _=>by simp[AV.low,aR]) _
    have c:=iz h (i:=2) (o':=.dK (kT id (λ _=>.tup []) (V.ws++[x]))) (by omega) rfl rfl lo
    rw[hw]
    exact⟨⟨h.at_.set 2 _,c.cl,c.tab⟩,c⟩
end
structure Ce (B:Nat)(s s':S):Prop where
 len:s.length<=s'.length
 get:∀ i,i < s.length->i < B∨B+17<=i->s'[i]? = s[i]?
theorem JN.a {B:Nat}{s s':S}(h:JN B s s'):Ce B s s':=⟨by rw[h.len];exact Nat.le_refl _,λ i _ k=>h.get i k⟩
theorem Ce.app {B:Nat}{s s':S}(h:Ce B s s')(e:S):Ce B s (s'++e):=⟨by have:=h.len;simp;omega,λ i hi k=>by rw[List.getElem?_append_left (by have:=h.len;omega)];exact h.get i hi k⟩
theorem Ce.refl (B:Nat)(s:S):Ce B s s:=⟨Nat.le_refl _,λ _ _ _=>rfl⟩
def M':List AV:=[.str "taken",.str "name",.str "much",.str "rate",.str "left"]
noncomputable abbrev NR:Ev:=Cq (ag br (aP (bS (aa (mc (.str "taken")) (aa (mc (.str "name")) (aa (mc (.str "much")) (aa (mc (.str "rate")) (aa (mc (.str "left")) ae))))))) (mv 0))
theorem Rw {a b c d e:AV}:([a,b,c,d,e].length<=sizeLine)=True:=eq_true (wA (by show 5<=1000;omega))
section
variable {B:Nat}{V W:Wl}{s:S}
theorem FA {k:Nat}{x:Str}{env:En}(e:M'[k]? = some (.str x)):NR (some (.int k) :: env) s=.ok (.str x) s:=by
 apply R.wp.eq
 have hk:k < 5:=(List.getElem?_eq_some_iff.mp e).1
 have ea:jD M' (k:Int)=some (.str x):=jy e
 simp only[↓WS,↓WE,↓WV,Lq,af,UU,Nat.reduceSub,↓reduceIte,Rw]
 show(need (ak (s++[.lst M']) s.length) λ xs=>need (jD xs k) λ v=>R.ok v (s++[.lst M'])).wp _
 rw[aF,aq,ea,aq,oW]
 exact⟨⟨List.take_left,by simp[AV.low]⟩,rfl⟩
theorem fJ {j k:Nat}{b:Bool}{xs:List AV}{env:En}(h:ak s j=some xs)(e:xs[k]? = some (.bl b)):cT (ag br (mv 1) (mv 0)) (some (.int k) :: some (.ref j) :: env) s=.ok b s:=by
 apply R.wp.eq
 have ea:jD xs (k:Int)=some (.bl b):=jy e
 walk_at "w"
 rw[h,aq,ea,aq,oW]
 exact⟨rfl,rfl⟩
theorem zg {j:Nat}{c:Nat}{x:Str}(hc:c=2/\x="taken"∨c=3/\x="name")(h:ak s j=some [.bl (aj 2 c),.bl (aj 3 c),.bl (aj 4 c),.bl (aj 5 c),.bl (aj 6 c)]) :
  bX (gN 0) (cT (ag br (mv 1) (mv 0))) NR [] (kS 0 5) [none,some (.ref j)] s []=.ok [.str x] s:=by
 have r5:kS 0 5=[.int (0:Nat),.int (1:Nat),.int (2:Nat),.int (3:Nat),.int (4:Nat)]:=rfl
 rw[r5]
 rcases hc with⟨rfl,rfl⟩|⟨rfl,rfl⟩
 ·rw[BZ rfl (fJ (k:=0) h rfl) (FA (k:=0) rfl),kC rfl (fJ (k:=1) h rfl),kC rfl (fJ (k:=2) h rfl),kC rfl (fJ (k:=3) h rfl),kC rfl (fJ (k:=4) h rfl),kB]
  rfl
 ·rw[kC rfl (fJ (k:=0) h rfl),BZ rfl (fJ (k:=1) h rfl) (FA (k:=1) rfl),kC rfl (fJ (k:=2) h rfl),kC rfl (fJ (k:=3) h rfl),kC rfl (fJ (k:=4) h rfl),kB]
  rfl
theorem B6 (c:Cl s){bs:List Bool}:Cl (s++[.lst (bs.map AV.bl)]):=c.add (by
 simp only[List.all_cons,List.all_nil,AO.low,Bool.and_true]
 exact j9 λ v hv=>by obtain⟨b,_,rfl⟩:=List.mem_map.mp hv;simp[AV.low])
theorem CK {c:Nat}{x:Str}(hc:c=2/\x="taken"∨c=3/\x="name"){i:Nat}(h:s[i]? = some (.exc c)) (cl:Cl s) :
    ((aD (gF (cB (ag jV (mv 2) (mc .aC))) (bq (mc (.str ""))) cA)
 (aD (bY 3 (aP (bS (aa (cC (bH (jz 2)) (mv 2)) (aa (cC (bH (jz 3)) (mv 2)) (aa (cC (bH (jz 4)) (mv 2)) ae))))))
 (aD (bY 3 (ag du (mv 3) (aP (bS (aa (cC (bH (jz 5)) (mv 2)) (aa (cC (bH (jz 6)) (mv 2)) ae))))))
 (aD (bY 4 (aP (cg [("_law_k",none),("_law_told",some 3)] (rX (aa (mc (.int 5)) ae)) (gN 0) (cT (ag br (mv 1) (mv 0))) NR)))
 (aD (gF (Cv (cB (ag pq (tN ie (aa (mv 4) ae)) (mc (.int 1)))) (Cv (cT (cC (bH (qA [1,8,7])) (mv 2))) (tm (cT (cC (bH yK) (mv 2)))))) (bq (mc (.str "many"))) cA)
 (bq (ag br (mv 4) (mc (.int 0))))))))) [none,none,some (.ref i),none,none,none] s).wp (λ _ _=>False) λ v s'=>v=.str x/\∃ e,s'=s++e/\Cl s':=by
  have hi:i < s.length:=(List.getElem?_eq_some_iff.mp h).1
  have c9:c < 9:=by rcases hc with⟨rfl,_⟩|⟨rfl,_⟩<;>omega
  have q:∀ (j:Nat) (e:S),bH (jz j) (.ref i) (s++e)=.ok (.bl (aj j c)) (s++e):=λ j e=>nu (by rw[List.getElem?_append_left hi];exact h) (if_pos c9)
  have q0:∀ (j:Nat),bH (jz j) (.ref i) s=.ok (.bl (aj j c)) s:=λ j=>nu h (if_pos c9)
  have qT:∀ (e:S),bH (qA [1,8,7]) (.ref i) (s++e)=.ok (.bl false) (s++e):=λ e=>nu (by rw[List.getElem?_append_left hi];exact h) (by rcases hc with⟨rfl,_⟩|⟨rfl,_⟩<;>rfl)
  have qV:∀ (e:S),bH yK (.ref i) (s++e)=.ok (.bl true) (s++e):=λ e=>nu (by rw[List.getElem?_append_left hi];exact h) (if_pos c9)
  simp only[↓WS,↓WE,↓WV,Lq,af,UU,Nat.reduceSub,↓reduceIte,il,↓aA (q0 _),↓aA (q _ _),↓oy]
  have c1:Cl (s++[.lst [.bl (aj 2 c),.bl (aj 3 c),.bl (aj 4 c)]]):=B6 (bs:=[aj 2 c,aj 3 c,aj 4 c]) cl
  have c2:Cl (s++[.lst [.bl (aj 2 c),.bl (aj 3 c),.bl (aj 4 c)]]++[.lst [.bl (aj 5 c),.bl (aj 6 c)]]):=B6 (bs:=[aj 5 c,aj 6 c]) c1
  have ea:=B1 (st:=s++[.lst [.bl (aj 2 c),.bl (aj 3 c),.bl (aj 4 c)]]++[.lst [.bl (aj 5 c),.bl (aj 6 c)]]) (ai (aF s [.bl (aj 2 c),.bl (aj 3 c),.bl (aj 4 c)])) (aF _ [.bl (aj 5 c),.bl (aj 6 c)]) (wA (by show 3+2<=1000;omega))
  rw[aA ea]
  have c3:Cl (s++[.lst [.bl (aj 2 c),.bl (aj 3 c),.bl (aj 4 c)]]++[.lst [.bl (aj 5 c),.bl (aj 6 c)]]++[.lst ([.bl (aj 2 c),.bl (aj 3 c),.bl (aj 4 c)]++[.bl (aj 5 c),.bl (aj 6 c)])]):=B6 (bs:=[aj 2 c,aj 3 c,aj 4 c,aj 5 c,aj 6 c]) c2
  have hl:=aF (s++[.lst [.bl (aj 2 c),.bl (aj 3 c),.bl (aj 4 c)]]++[.lst [.bl (aj 5 c),.bl (aj 6 c)]]) ([.bl (aj 2 c),.bl (aj 3 c),.bl (aj 4 c)]++[.bl (aj 5 c),.bl (aj 6 c)])
  simp only[List.append_assoc]at c3 hl ⊢
  generalize ([AO.lst [.bl (aj 2 c),.bl (aj 3 c),.bl (aj 4 c)]]++([AO.lst [.bl (aj 5 c),.bl (aj 6 c)]]++[AO.lst ([.bl (aj 2 c),.bl (aj 3 c),.bl (aj 4 c)]++[.bl (aj 5 c),.bl (aj 6 c)])]))=e3 at *
  generalize (s++([AO.lst [.bl (aj 2 c),.bl (aj 3 c),.bl (aj 4 c)]]++[AO.lst [.bl (aj 5 c),.bl (aj 6 c)]])).length=j3 at *
  refine⟨⟨by decide,by decide⟩,wA (by simp[kS]),?_⟩
  rw[show(5:Int).toNat=5 from rfl,aA (zg hc hl)]
  have l4:=aF (s++e3) [.str x]
  simp only[↓WS,↓WE,↓WV,Lq,af,UU,Nat.reduceSub,↓reduceIte,↓aA (nr l4),List.append_assoc,↓aA (qT _),↓aA (qV _),jP,Bool.not_true]
  have l5:ak (s++(e3++[.lst [.str x]])) (s++e3).length=some [.str x]:=by rw[<-List.append_assoc];exact l4
  simp only[List.length_cons,List.length_nil,Nat.zero_add,Int.natCast_one]
  rw[if_neg (by simp),if_neg (by decide),l5,aq,show jD [AV.str x] 0=some (.str x) from Lq.2.2.2.2.1 _ _,aq,oW]
  refine⟨rfl,_,rfl,?_⟩
  rw[<-List.append_assoc]
  exact dD (b:=0) c3 (.one (zH _ _))
theorem Ma {n:Nat}{b:Ms}{v w:AV}{s:S}{Q:AV->S->Prop}(h:(b (some v :: some w :: List.replicate (n - 2) none) s).wp (λ _ s1=>Q .aC s1) Q):(eL n b [v,w] s).wp Q:=by rw[WS.2.2.2.2.2.2.2.2.2.2.2.2.2.2.2.2.1];exact h
theorem L' {n:Nat}{b:Ms}{v w x:AV}{s:S}{Q:AV->S->Prop}(h:(b (some v :: some w :: some x :: List.replicate (n - 3) none) s).wp (λ _ s1=>Q .aC s1) Q):(eL n b [v,w,x] s).wp Q:=by rw[WS.2.2.2.2.2.2.2.2.2.2.2.2.2.2.2.2.2];exact h
theorem l_ {i:Nat}{m:Ev}{b:Ms}{env:En}{s:S}{v:AV}{N:En->S->Prop}{T:AV->S->Prop}(e:m env s=.ok v s)(h:(b (env.set i (some v)) s).wp N T):(aD (bY i m) b env s).wp N T:=by
 rw[WS.1,WS.2.1,aA e];exact h
theorem zp {n i:Nat}{sub:Nat->Bool}{b h r:Ms}{env e2:En}{s s1 s2:S}{c:AX}{N:En->S->Prop}{T:AV->S->Prop}(hb:b env s=.ex c s1)(hs:sub c.cls=true)(eh:h ((List.replicate n none).set i (some (.ref s1.length))) (s1++[.exc c.cls])=.nx e2 s2) (hr:(r (e2.set i none) s2).wp N T):(aD (mX n i sub b h) r env s).wp N T:=by
 rw[WS.1,xQ hb hs,eh];exact hr
theorem zo {n i:Nat}{sub:Nat->Bool}{b h r:Ms}{env e2:En}{s s1:S}{N:En->S->Prop}{T:AV->S->Prop}(hb:b env s=.nx e2 s1)(hr:(r e2 s1).wp N T):(aD (mX n i sub b h) r env s).wp N T:=by
 rw[WS.1,xP hb];exact hr
theorem vA (h:lW B V W s){n:Nat}(ok:yL n V)(hn:n < 60)(d:De)(hd:d.nm):(cM [.ref B,dv d] s).wp λ v s'=>v=.str (i6 V d)/\lW B (gI V d) W s'/\Ce B s s':=by
 unfold cM hR
 rcases uR h ok hn d hd with⟨er,s',e1,b1,k1⟩|⟨c,hc,hw,e1⟩
 ·have et:bQ (aE 2 bC (aa (mv 0) (aa (mv 1) ae))) [some (.ref B),some (dv d),some .aC,none,none,none] s=.nx [some (.ref B),some (dv d),some .aC,none,none,none] s':=iy ((A6 iF mz).trans e1)
  refine Ma (l_ rfl (zo et ?_))
  simp only[↓WS,↓WE,↓WV,Lq,af,UU,Nat.reduceSub,↓reduceIte,il]
  exact⟨by rw[er],b1,k1.a⟩
 ·have et:bQ (aE 2 bC (aa (mv 0) (aa (mv 1) ae))) [some (.ref B),some (dv d),some .aC,none,none,none] s=.ex ⟨c,[]⟩ s:=cR ((A6 iF mz).trans e1)
  have c9:(λ c=>decide (c < 9) && aj 0 c) (⟨c,[]⟩:AX).cls=true:=by rcases hc with⟨rfl,_⟩|⟨rfl,_⟩<;>rfl
  obtain⟨x,hx⟩:∃ x,x=i6 V d:=⟨_,rfl⟩
  rw[<-hx]at hc
  rw[<-hx,hw]
  have c1:Cl (s++[.exc c]):=h.cl.add (by simp[AO.low])
  have hw:=CK (x:=x) hc (s:=s++[.exc c]) (i:=s.length) (by rw[List.getElem?_append_right (Nat.le_refl _)];simp) c1
  refine Ma (l_ rfl (zp et c9 rfl ?_))
  refine RS.wp.mono hw (λ _ _ f=>f.elim) ?_
  rintro v s' ⟨rfl,e,rfl,c2⟩
  refine⟨rfl,?_,?_⟩
  ·rw[List.append_assoc]at c2 ⊢;exact h.app c2
  ·exact((Ce.refl B s).app _).app _
def there (V:Wl)(k:Nat)(x:Str):Prop:=if k=0∨k=2 then x∈V.ws else x∈V.ps
theorem yJ {i:Nat}(h:s[i]? = some (.exc 3)):((aD (gF (cB (ag jV (mv 3) (mc .aC))) (bq (mc (.bl false))) cA)
 (bq (sI (cC (bH (jz 3)) (mv 3)) (cC qQ (cC (bH (qA [1,8,7,6,5])) (mv 3)))))) [none,none,none,some (.ref i),none] s).wp (λ _ _=>False) λ v s'=>v=.bl true/\s'=s:=by
  simp only[↓WS,↓WE,↓WV,Lq,af,UU,Nat.reduceSub,↓reduceIte,il,↓aA (nu (ans:=jz 3) (b:=true) h rfl),↓aA (nu (ans:=qA [1,8,7,6,5]) (b:=false) h rfl),Bool.not_false]
theorem u9 (h:lW B V W s){x:Str}(hx:x.length<=1000){k:Nat}(hk:k < 4) [Decidable (there V k x)]:(b9 [.ref B,.int k,.str x] s).wp λ v s'=>v=.bl (!decide (there V k x))/\∃ e,s'=s++e/\Cl s':=by
  have c1:Cl (s++[.exc 3]):=h.cl.add (by simp[AO.low])
  have c2:=pH h.cl
  unfold b9 gn
  have fin:∀ (b:Ms) (env:En),env=[some (.ref B),some (.int k),some (.str x),some .aC,none]->(there V k x->∃ e,b env s=.nx env (s++e)/\Cl (s++e))->(¬ there V k x->b env s=.ex ⟨3,[]⟩ s)->(eL 5 (aD (bY 3 (mc .aC)) (aD (mX 5 4 (λ c=>decide (c < 9) && aj 0 c) b (bY 3 (mv 4))) (aD (gF (cB (ag jV (mv 3) (mc .aC))) (bq (mc (.bl false))) cA)
 (bq (sI (cC (bH (jz 3)) (mv 3)) (cC qQ (cC (bH (qA [1,8,7,6,5])) (mv 3)))))))) [.ref B,.int k,.str x] s).wp λ v s'=>v=.bl (!decide (there V k x))/\∃ e,s'=s++e/\Cl s':=by
    rintro b env rfl h1 h2
    by_cases ht:there V k x
    · obtain⟨e,eb,ce⟩:=h1 ht
      refine L' (l_ rfl (zo eb ?_))
      simp only[↓WS,↓WE,↓WV,Lq,af,UU,Nat.reduceSub,↓reduceIte,il]
      exact⟨by simp[ht],e,rfl,ce⟩
    · refine L' (l_ rfl (zp (h2 ht) rfl rfl ?_))
      have hw:=yJ (s:=s++[AO.exc 3]) (i:=s.length) (by rw[List.getElem?_append_right (Nat.le_refl _)];simp)
      refine RS.wp.mono hw (λ _ _ f=>f.elim) ?_
      rintro v s' ⟨rfl,rfl⟩
      exact⟨by simp[ht],_,rfl,c1⟩
  have sH:∀ (F:List AV->S->R AV) (m:Str),((["keeps","rows","hands","makers","rates","half","money","debts"]:List Str).any λ f=>m == f)=false->aI 9 m 1 F (mv 0) (aa (mv 2) ae) [some (.ref B),some (.int k),some (.str x),some .aC,none] s=F [.ref B,.str x] s:=λ F m hm=>dh h.at_ hm iF rfl
  have ec:∀ j:Int,cB (ag dQ (mv 1) (mc (.int j))) [some (.ref B),some (.int k),some (.str x),some .aC,none] s=.ok (decide ((k:Int)=j)) s:=λ j=>by
    apply R.wp.eq
    walk_at "w"
  have Nu:k=0∨k=1∨k=2∨k=3:=by omega
  refine fin _ _ rfl ?_ ?_
  · intro ht
    rcases Nu with rfl|rfl|rfl|rfl
    · exact⟨[],by rw[List.append_nil];exact(om (ec 0)).trans (iy ((sH _ _ (by decide +kernel)).trans (nJ h.at_ ht))),by rw[List.append_nil];exact h.cl⟩
    · exact⟨[.lst []],(jF (ec 0)).trans ((om (ec 1)).trans (iy ((sH _ _ (by decide +kernel)).trans (mG h.at_ ht)))),c2⟩
    · exact⟨[],by rw[List.append_nil];exact(jF (ec 0)).trans ((jF (ec 1)).trans ((om (ec 2)).trans (iy ((sH _ _ (by decide +kernel)).trans (mD h.at_ ht))))),by rw[List.append_nil];exact h.cl⟩
    · exact⟨[],by rw[List.append_nil];exact(jF (ec 0)).trans ((jF (ec 1)).trans ((jF (ec 2)).trans (iy ((sH _ _ (by decide +kernel)).trans (nQ h.at_ ht))))),by rw[List.append_nil];exact h.cl⟩
  · intro ht
    rcases Nu with rfl|rfl|rfl|rfl
    · exact(om (ec 0)).trans (cR ((sH _ _ (by decide +kernel)).trans (vz h.at_ hx ht)))
    · exact(jF (ec 0)).trans ((om (ec 1)).trans (cR ((sH _ _ (by decide +kernel)).trans (uH h.at_ hx ht))))
    · exact(jF (ec 0)).trans ((jF (ec 1)).trans ((om (ec 2)).trans (cR ((sH _ _ (by decide +kernel)).trans (uB h.at_ hx ht)))))
    · exact(jF (ec 0)).trans ((jF (ec 1)).trans ((jF (ec 2)).trans (cR ((sH _ _ (by decide +kernel)).trans (vT h.at_ hx ht)))))
end
end Ro
namespace Mm
open PySem L2
mutual
theorem Rp.zero {b:Nat}{s:S}:∀ {d:Dt}{v:AV},Rp b s d v->Rp 0 s d v
 | .aC,_,h=>by unfold Rp at h ⊢;exact h
 | .bl _,_,h=>by unfold Rp at h;exact h.elim
 | .int _,_,h=>by unfold Rp at h ⊢;exact h
 | .str _,_,h=>by unfold Rp at h ⊢;exact h
 | .tup l,_,h=>by
  unfold Rp at h ⊢
  obtain⟨xs,e,hl,h⟩:=h
  exact⟨xs,e,hl,cw.zero h⟩
 | .lst l,_,h=>by
  unfold Rp at h ⊢
  obtain⟨i,xs,e,_,h1,hl,h⟩:=h
  exact⟨i,xs,e,Nat.zero_le _,h1,hl,cw.zero h⟩
theorem cw.zero {b:Nat}{s:S}:∀ {l:List Dt}{xs:List AV},cw b s l xs->cw 0 s l xs
 | [],_,h=>by unfold cw at h ⊢;exact h
 | _ :: _,_,h=>by
  unfold cw at h ⊢
  obtain⟨x,r,e,h1,h2⟩:=h
  exact⟨x,r,e,Rp.zero h1,cw.zero h2⟩
end
theorem F7 (a b:Bool)(s:S)(Q:AV->S->Prop):(dQ (.bl a) (.bl b) s).wp Q=Q (.bl (decide (a=b))) s:=rfl
end Mm
namespace Ro
open PySem L2 Mm
section
variable {B:Nat}{V W:Wl}{s:S}
theorem vV (h:At B (mid B V W) s) {x:Str}:pz (.str x) (.ref (B+8)) s=.ok (.bl (decide (x∈W.ps))) s:=by
 have e:gA s (B+8)=none:=by
  have:=aB (bR h)
  unfold gA;rw[this]
 show(if (gA s (B+8)).isSome=true then _ else qq (.str x) (.ref (B+8)) s)=_
 rw[e,if_neg (by decide)]
 exact pV (bR h)
theorem yt (h:At B (mid B V W) s) {x:Str}:pz (.str x) (.ref (B+9)) s=.ok (.bl (decide (x∈W.ws))) s:=by
 show(if (gA s (B+9)).isSome=true then jX (.str x) (.ref (B+9)) s else _)=_
 rw[eZ h]
 exact(kA (eZ h)).trans (by rw[eV])
theorem Gn {k:Nat}(hk:k < 4):qq (.int (k:Int)) (.tup [.int 0,.int 2]) s=.ok (.bl (decide (k=0∨k=2))) s:=by
 have Nu:k=0∨k=1∨k=2∨k=3:=by omega
 rcases Nu with rfl|rfl|rfl|rfl<;>rfl
theorem Fl (h:lW B V W s)(hp:V.ps=W.ps)(hw:V.ws=W.ws){j:Nat}{names:List Str}(hl:ak s j=some (names.map AV.str)) (hn:∀ x∈names,x.length<=1000):(bz [.ref B,.ref (B+14),.ref j] s).wp λ v s'=>v=.bl true/\∃ e,s'=s++e/\Cl s':=by
 classical
 unfold bz e_
 simp only[↓WS,↓WE,↓WV,Lq,af,UU,Nat.reduceSub,↓reduceIte,↓aA (jK hl)]
 refine pZ (λ xs env st=>∃ (r:List Str) (x3 x4 x5:Option AV) (e:S),(∀ x∈r,x∈names)/\xs=r.map AV.str/\env=[some (.ref B),some (.ref (B+14)),some (.ref j),x3,x4,x5]/\st=s++e/\Cl st) ?_ ?_ ?_ _ _ _ ⟨names,none,none,none,[],λ _ h=>h,rfl,rfl,by simp,h.cl⟩
 ·rintro _ _ st ⟨_,_,_,_,e,_,_,_,rfl,_⟩ p hp
  rw[List.mem_singleton.mp hp]
  exact ai hl
 ·rintro env st ⟨_,_,_,_,e,_,_,_,rfl,c⟩
  exact⟨e,rfl,c⟩
 ·rintro v r env st ⟨r',x3,x4,x5,e,hr,ex,rfl,rfl,c⟩
  cases r' with
  | nil=>cases ex
  | cons x r'=>
   cases ex
   have hx:=hn x (hr x (.head _))
   simp only[↓WS,↓WE,↓WV,Lq,af,UU,Nat.reduceSub,↓reduceIte,↓oy]
   refine⟨⟨by decide,by decide⟩,?_⟩
   rw[show kS 0 (4:Int).toNat=(List.range 4).map λ(k:Nat)=>AV.int (0+k) from rfl]
   refine pZ (λ xs env st=>∃ (q:List Nat) (x4 x5:Option AV) (e:S),(∀ k∈q,k < 4)/\(xs=q.map λ(k:Nat)=>AV.int (0+k))/\env=[some (.ref B),some (.ref (B+14)),some (.ref j),some (.str x),x4,x5]/\st=s++e/\Cl st) ?_ ?_ ?_ _ _ _ ⟨List.range 4,_,_,e,λ k hk=>List.mem_range.mp hk,rfl,rfl,rfl,c⟩
   ·rintro _ _ st _ p hp;cases hp
   ·rintro env st ⟨_,_,_,e,_,_,rfl,rfl,c⟩
    exact⟨r',_,_,_,e,λ y hy=>hr y (.tail _ hy),rfl,rfl,rfl,c⟩
   ·rintro v Tu env st ⟨q,x4,x5,e,hq,eq,rfl,rfl,c⟩
    cases q with
    | nil=>cases eq
    | cons k q=>
     cases eq
     have hk:=hq k (.head _)
     have b:=h.app c
     have e0:(λ(k:Nat)=>AV.int (0+(k:Int))) k=.int (k:Int):=by show AV.int (0+(k:Int))=_;rw[Int.zero_add]
     rw[e0]
     simp only[↓WS,↓WE,↓WV,Lq,af,UU,Nat.reduceSub,↓reduceIte,↓aA (Gn hk)]
     by_cases IQ:k=0∨k=2
     ·simp only[↓WS,↓WE,↓WV,Lq,af,UU,Nat.reduceSub,↓reduceIte,IQ,decide_true,↓aA (qi b.at_ (lZ B W.h))]
      refine(u9 b hx hk).mono ?_
      rintro _ s2 ⟨rfl,e2,rfl,c2⟩
      have b2:=b.app c2
      rw[aA (yt b2.at_)]
      have ht:there V k x=(x∈W.ws):=by unfold there;rw[if_pos IQ,hw]
      simp only[F7]
      rw[if_neg (by simp only[ht,decide_eq_true_eq];by_cases z:x∈W.ws<;>simp[z])]
      exact⟨q,_,_,e++e2,λ k' h'=>hq k' (.tail _ h'),rfl,rfl,by simp,c2⟩
     ·simp only[↓WS,↓WE,↓WV,Lq,af,UU,Nat.reduceSub,↓reduceIte,IQ,decide_false,↓aA (qi b.at_ (mS B W.h))]
      refine(u9 b hx hk).mono ?_
      rintro _ s2 ⟨rfl,e2,rfl,c2⟩
      have b2:=b.app c2
      rw[aA (vV b2.at_)]
      have ht:there V k x=(x∈W.ps):=by unfold there;rw[if_neg IQ,hp]
      simp only[F7]
      rw[if_neg (by simp only[ht,decide_eq_true_eq];by_cases z:x∈W.ps<;>simp[z])]
      exact⟨q,_,_,e++e2,λ k' h'=>hq k' (.tail _ h'),rfl,rfl,by simp,c2⟩
structure Sp (b f:Nat)(s:S)(items:List AV)(k:Nat)(st:S):Prop where
 pre:st.take b=s
 hf:ak st f=some items
 nl:∀ i,b<=i->i < f->∃ xs,ak st i=some xs/\xs.length<=1000+k/\(∀ v∈xs,nice b v=true)/\aR i xs=true
end
theorem B_ (ns:List Int){s0:S}(c0:Cl s0):(dF [.sq (ns.map AV.int)] s0).wp λ v s'=>∃ c d e,v=.ref d/\s'=s0++e/\Dr c d 0 s'/\s0.length<=c/\s0.length<=d:=by
 obtain⟨ms,em⟩:∃ ms:List Int,gf (ns.map AV.int) none (some 63)=ms.map AV.int:=by
  refine⟨gf ns none (some 63),?_⟩
  unfold gf;rw[List.length_map,<-List.map_drop,<-List.map_take]
 have e1:yg (.sq (ns.map AV.int)) none (some 63) s0=.ok (.ref s0.length) (s0++[.lst (ms.map AV.int)]):=by
  show R.ok _ (s0++[AO.lst (gf (ns.map AV.int) none (some 63))])=_
  rw[em]
 have e2:items (.ref s0.length) (s0++[.lst (ms.map AV.int)])=some (ms.map AV.int):=aF _ _
 have c1:Cl (s0++[.lst (ms.map AV.int)]):=c0.add (by simp[AO.low,low_ints])
 have c2:Cl (s0++[.lst (ms.map AV.int)]++[.lst (ms.map AV.int)]):=c1.add (by simp[AO.low,low_ints])
 have l2:ak (s0++[.lst (ms.map AV.int)]++[.lst (ms.map AV.int)]) (s0++[AO.lst (ms.map AV.int)]).length=some (ms.map AV.int):=aF _ _
 have b2:s0.length<=(s0++[AO.lst (ms.map AV.int)]).length:=by simp
 unfold dF jx
 simp only[↓WS,↓WE,↓WV,Lq,af,UU,Nat.reduceSub,↓reduceIte,↓aA e1,e2,wF]
 rw[List.append_assoc]at *
 have g2:s0.length<=(s0++([AO.lst (ms.map AV.int)]++[AO.lst (ms.map AV.int)])).length:=by simp
 generalize ([AO.lst (ms.map AV.int)]++[AO.lst (ms.map AV.int)])=ee at *
 generalize (s0++[AO.lst (ms.map AV.int)]).length=k1 at *
 have e3:dQ (.ref k1) (.ref (s0++ee).length) (s0++ee++[.lst []])=.ok (.bl (ms.map AV.int).isEmpty) (s0++ee++[.lst []]):=by
  unfold dQ;rw[BK (xs:=ms.map AV.int) (ai l2) (aF _ _) (rn ms)];rfl
 have ed:∀ (s:S) (k:Nat) (x:Option AV),jC [((mc (.str "cells")),(mv 1)),((mc (.str "turn")),(mc (.int 0)))] [x,some (.ref k)] s=.ok (.ref s.length) (s++[.dK (sV k 0)]):=by
  intro s k x
  unfold jC yN yN yN
  simp only[mc,mv,ay,Lq,pO,fY,Option.bind_some,Option.map_some,aq]
  rw[if_pos (by show(2:Nat)<=15;omega)]
  congr 1
 simp only[↓WS,↓WE,↓WV,Lq,af,UU,Nat.reduceSub,↓reduceIte,↓aA e3,List.take_left]
 have fin:∀ (k:Nat) (e:S) (cells:List Int),ak (s0++e) k=some (cells.map AV.int)->cells≠[]->Cl (s0++e)->s0.length<=k->∃ c d e',AV.ref (s0++e).length=.ref d/\s0++e++[.dK (sV k 0)]=s0++e'/\Dr c d 0 (s0++e++[.dK (sV k 0)])/\s0.length<=c/\s0.length<=d:=λ k e cells hl hc cl hk=>by
  have lk:=(List.getElem?_eq_some_iff.mp (aB hl)).1
  refine⟨k,_,_,rfl,by rw[List.append_assoc],⟨⟨0,cells,by rw[List.getElem?_append_right (Nat.le_refl _)];simp,aB (ai hl),hc,by omega,by omega⟩,cl.add ?_⟩,hk,by simp⟩
  simp only[List.all_cons,List.all_nil,AO.low,sV,List.map_cons,List.map_nil,aR,AV.low,Bool.and_true,decide_eq_true_eq]
  simp;simp at lk;omega
 cases ms with
 | nil=>
  simp only[List.map_nil,List.isEmpty_nil,if_true,↓aA (ed _ _ _)]
  have l3:=aF (s0++ee) [.int 7]
  have c3:Cl (s0++ee++[.lst [.int 7]]):=c2.add (by simp[AO.low,aR,AV.low])
  rw[List.append_assoc]at l3 c3 ⊢
  exact fin _ _ [7] l3 (by simp) c3 g2
 | cons m r=>
  simp only[List.map_cons,List.isEmpty_cons,Bool.false_eq_true,if_false,↓aA (ed _ _ _)]
  exact fin _ _ (m :: r) l2 (by simp) c2 b2
theorem xo {α:Type}:∀ (l:List α) (m:Nat) (h:m < l.length),(l[m] :: l.eraseIdx m).Perm l
 | [],_,h=>absurd h (by simp)
 | _ :: _,0,_=>List.Perm.refl _
 | a :: r,m+1,h=>((List.Perm.swap ..).trans (List.Perm.cons a (xo r m (by simpa using h))):(r[m]'(by simpa using h) :: a :: r.eraseIdx m).Perm (a :: r))
theorem DS:([]++sC).Nodup:=by decide +kernel
theorem AI {c d n:Nat}{s:S}(D:Dr c d n s)(hn:n<=900000000){k:Int}(k0:0<=k)(k1:k<=20):(dE [.ref d,.int k] s).wp λ v s'=>∃ (j:Nat) (zs:List Str),v=.ref j/\s.length<=j/\ak s' j=some (zs.map AV.str)/\(zs.length:Int)=k/\(∀ z∈zs,z∈sC)/\zs.Nodup/\Dr c d (n+20) s'/\Gk c d s s':=by
 have lc:=D.Eu
 have ld:=D.Et
 unfold dE jv
 simp only[↓WS,↓WE,↓WV,Lq,af,UU,Nat.reduceSub,↓reduceIte,↓oy,↓aA (CW _),show ∀ s:S,(iX "str" (.str "b aa zebra c quartzes ab m knows d mm likes z ba abcdefgh y zz e x f g hh jj kk pave") s).isSome=true from λ _=>rfl]
 refine⟨⟨by omega,by omega⟩,wA (by simp[kS];omega),?_⟩
 refine kR (λ xs acc env st=>∃ (ys zs:List Str) (x:Option AV),acc=zs.map AV.str/\ak st s.length=some (ys.map AV.str)/\(xs.length:Int)+zs.length=k/\ys.length+zs.length=24/\(∀ z∈ys,z∈sC)/\(∀ z∈zs,z∈sC)/\(zs++ys).Nodup/\env=[x,some (.ref s.length),some (.ref d)]/\Dr c d (n+zs.length) st/\Gk c d s st) ?_ ?_ ?_ _ _ _ _ ⟨sC,[],none,rfl,aF _ _,by simp[kS];omega,by rw[Ax];rfl,λ _ h=>h,(λ _ h=>nomatch h),DS,rfl,D.app (D.cl.add (by simp[AO.low,cf])),Gk.app c d s _⟩
 ·rintro _ _ _ st _ p hp;cases hp
 ·rintro acc env st ⟨ys,zs,x,rfl,l1,l2,l3,m1,m2,nd,rfl,D1,G1⟩
  refine⟨st.length,zs,rfl,G1.len,aF _ _,by simpa using l2,m2,(List.nodup_append.mp nd).1,?_,G1.trans (Gk.app c d st _)⟩
  have l2:((0:Nat):Int)+zs.length=k:=l2
  exact(D1.app (D1.cl.add (by simp[AO.low,cf]))).mono (by omega)
 ·rintro v r acc env st ⟨ys,zs,x,rfl,l1,l2,l3,m1,m2,nd,rfl,D1,G1⟩
  have l2:((r.length+1:Nat):Int)+zs.length=k:=l2
  simp only[↓WS,↓WE,↓WV,Lq,af,UU,Nat.reduceSub,↓reduceIte,pR l1,↓aA (nr l1),List.length_map]
  refine(gC D1 (by omega) (by omega) (qx (by omega) (by omega))).mono ?_
  rintro _ s1 ⟨j,rfl,j0,j1,D2,K2⟩
  have l4:=K2.gk.lst (n:=0) (by omega) (by omega) l1
  obtain⟨m,rfl⟩:∃ m:Nat,j=m:=⟨j.toNat,by omega⟩
  have hm:m < ys.length:=by omega
  have ep:uk (.ref s.length) [.int m] s1=.ok (.str ys[m]) (s1.set s.length (.lst ((ys.eraseIdx m).map AV.str))):=by
   show(need (ak s1 s.length) λ xs=>if 0<=(m:Int)/\(m:Int) < xs.length then need xs[(m:Int).toNat]? λ y=>R.ok y (s1.set s.length (.lst (xs.eraseIdx (m:Int).toNat))) else .bad)=_
   rw[l4,aq,if_pos ⟨by omega,by rw[List.length_map];omega⟩]
   show(need (ys.map AV.str)[m]? λ y=>R.ok y (s1.set s.length (.lst ((ys.map AV.str).eraseIdx m))))=_
   rw[List.getElem?_map,List.getElem?_eq_getElem hm]
   show R.ok (AV.str ys[m]) _=_
   rw[BI]
  rw[aA ep]
  refine⟨ys.eraseIdx m,zs++[ys[m]],_,by simp,wW l4,by simp;omega,?_,λ z hz=>m1 z (List.mem_of_mem_eraseIdx hz),λ z hz=>?_,?_,rfl,?_,(G1.trans K2.gk).set (Nat.le_refl _)⟩
  ·rw[List.length_eraseIdx_of_lt hm];simp;omega
  ·rcases List.mem_append.mp hz with hz|hz
   ·exact m2 z hz
   ·rw[List.mem_singleton.mp hz];exact m1 _ (List.getElem_mem hm)
  ·rw[List.append_assoc]
   refine(List.Perm.append_left zs ?_).nodup nd
   exact(xo ys m hm).symm
  ·exact(D2.mono (by simp;omega)).set (by omega) (by omega) (cf _ _)
theorem Aw:∀ z∈sC,z.length<=1000:=by
 have:(sC.all λ z=>decide (z.length<=1000))=true:=by decide +kernel
 exact λ z hz=>of_decide_eq_true (List.all_eq_true.mp this z hz)
theorem z0 {c d n:Nat}{s:S}(D:Dr c d n s)(hn:n<=900001000){xs:List AV}{m:Int}(hm:m=xs.length)(TR:0 < m)(TQ:m<=10){P:AV->Prop}(hx:∀ v∈xs,P v/\∀ b,v.low b=true) :
  (aQ [.ref d,.int m] (s++[.lst xs])).wp λ v s2=>∃ b,br (.ref s.length) v s2=.ok b s2/\P b/\b.low s.length=true/\(s2.take s.length).all (AO.low s.length)=true/\Dr c d (n+1) (s2.take s.length)/\Kp c d s (s2.take s.length):=by
 have lx:∀ b,aR b xs=true:=λ b=>j9 λ v hv=>(hx v hv).2 b
 have D1':=D.app (e:=[.lst xs]) (D.cl.add (by simp[AO.low,lx]))
 refine(gC D1' (by omega) (by omega) (qx (by omega) (by omega))).mono ?_
 rintro _ s2 ⟨j,rfl,j0,j1,D2,K2⟩
 obtain⟨v,hv,ev⟩:=w4 (s:=s2) (i:=s.length) (j:=j) (K2.gk.lst (n:=0) (by have:=D.Eu;omega) (by have:=D.Et;omega) (aF s _)) j0 (by omega)
 obtain⟨D3,K3,al⟩:=((Gk.app c d s _).trans K2.gk).cut D D2
 exact⟨v,ev,(hx v hv).1,(hx v hv).2 _,al,D3,K3⟩
theorem KI {c d n i:Nat}{s:S}(D:Dr c d n s)(hn:n<=900000000){l:List Str}(hl:ak s i=some (l.map AV.str)) (h0:0 < l.length)(h1:l.length<=1000)(ic:i≠c)(O4:i≠d):(gM [.ref d,.ref i] s).wp λ v s'=>∃ x,v=.str x/\x∈l/\Dr c d (n+1) s'/\Kp c d s s':=by
 unfold gM nE
 simp only[↓WS,↓WE,↓WV,Lq,af,UU,Nat.reduceSub,↓reduceIte,↓aA (nr hl),List.length_map]
 refine(gC D (by omega) (by omega) (qx (by omega) (by omega))).mono ?_
 rintro _ s1 ⟨j,rfl,j0,j1,D1,K1⟩
 obtain⟨v,hv,ev⟩:=w4 (s:=s1) (i:=i) (j:=j) (K1.gk.lst (n:=0) ic O4 hl) j0 (by rw[List.length_map];exact j1)
 obtain⟨x,hx,rfl⟩:=List.mem_map.mp hv
 have S0:(need (ak s1 i) λ xs=>need (jD xs j) λ v=>R.ok v s1)=.ok (.str x) s1:=ev
 simp only[↓WS,↓WE,↓WV,Lq,af,UU,Nat.reduceSub,↓reduceIte,↓aA S0]
 exact⟨x,rfl,hx,D1,K1⟩
def vh (w:Str):Prop:=w="person"∨w="work"∨w="half"∨w="keep"
theorem Fc {c d n i:Nat}{s:S}(D:Dr c d n s)(hn:n<=800000000){l:List Str}(hl:ak s i=some (l.map AV.str)) (h0:0 < l.length)(h1:l.length<=1000)(hs:∀ x∈l,x.length<=1000)(ic:i≠c)(O4:i≠d){w:Str}(hw:vh w):(eM [.ref d,.ref i,.str w] s).wp λ v s'=>∃ de,v=dv de/\de.nm/\Dr c d (n+10) s'/\Kp c d s s':=by
 unfold eM kH
 walk_at "w"
 refine(KI D (by omega) hl h0 h1 ic O4).mono ?_
 rintro _ s1 ⟨x,rfl,hx,D1,K1⟩
 have hx:=hs x hx
 rcases hw with rfl|rfl|rfl|rfl
 ·simp only[↓WS,↓WE,↓WV,Lq,af,UU,Nat.reduceSub,↓reduceIte,WQ,decide_false]
  exact⟨.person x,rfl,hx,D1.mono (by omega),K1⟩
 ·simp only[↓WS,↓WE,↓WV,Lq,af,UU,Nat.reduceSub,↓reduceIte,WQ,decide_false]
  exact⟨.work x,rfl,hx,D1.mono (by omega),K1⟩
 ·simp only[↓WS,↓WE,↓WV,Lq,af,UU,Nat.reduceSub,↓reduceIte,decide_true]
  refine(gC D1 (by omega) (by omega) (qx (by omega) (by omega))).mono ?_
  rintro _ s2 ⟨r,rfl,r0,r1,D2,K2⟩
  walk_at "w"
  refine⟨wA (by simp),?_⟩
  rw[<-K2.len]
  refine(z0 D2 (by omega) (P:=λ v=>∃ b,v=.int b) rfl (by simp) (by simp) ?_).mono ?_
  ·intro v hv
   simp only[List.mem_cons,List.not_mem_nil,or_false]at hv
   rcases hv with rfl|rfl|rfl|rfl<;>exact⟨⟨_,rfl⟩,λ b=>by simp[AV.low]⟩
  rintro _ s3 ⟨v,ev,⟨b,rfl⟩,lo,al,D3,K3⟩
  simp only[↓WS,↓WE,↓WV,Lq,af,UU,Nat.reduceSub,↓reduceIte,↓aA ev,al,lo]
  exact⟨.half b,rfl,trivial,D3.mono (by omega),(K1.trans K2).trans K3⟩
 ·simp only[↓WS,↓WE,↓WV,Lq,af,UU,Nat.reduceSub,↓reduceIte,WQ,decide_false,decide_true]
  refine(wJ D1 (by omega)).mono ?_
  rintro _ s2 ⟨q1,rfl,_,_,_,D2,K2⟩
  refine(wJ D2 (by omega)).mono ?_
  rintro _ s3 ⟨q2,rfl,_,_,_,D3,K3⟩
  refine⟨wA (by simp),?_⟩
  rw[<-K2.len,<-K3.len]
  refine(z0 D3 (by omega) (P:=λ v=>∃ a,v=kY a) rfl (by simp) (by simp) ?_).mono ?_
  ·intro v hv
   simp only[List.mem_cons,List.not_mem_nil,or_false]at hv
   rcases hv with rfl|rfl|rfl|rfl
   ·exact⟨⟨(0,1),rfl⟩,λ b=>by simp[AV.low,aR]⟩
   ·exact⟨⟨(1,1),rfl⟩,λ b=>by simp[AV.low,aR]⟩
   ·exact⟨⟨(q1.num,q1.den),rfl⟩,λ b=>by simp[fq,AV.low,aR]⟩
   ·exact⟨⟨(q2.num,q2.den),rfl⟩,λ b=>by simp[fq,AV.low,aR]⟩
  rintro _ s4 ⟨v,ev,⟨a,rfl⟩,lo,al,D4,K4⟩
  simp only[↓WS,↓WE,↓WV,Lq,af,UU,Nat.reduceSub,↓reduceIte,↓aA ev,al,lo]
  exact⟨.keep x a,rfl,hx,D4.mono (by omega),((K1.trans K2).trans K3).trans K4⟩
theorem IH {c:Nat}{s t:S}{fs:List (Str × AV)}:mE c (.ref s.length) (s++AO.ins c fs :: t)=some (s.length,fs):=jm (by rw[List.getElem?_append_right (Nat.le_refl _)];simp)
theorem GI {s t:S}{a o:AO}:(s++a :: t).set s.length o=s++o :: t:=by rw[List.set_append_right _ _ (Nat.le_refl _)];simp
theorem iu {c:Nat}{f:Str}{m:Ev}{v:AV}{s t t':S}{fs:List (Str × AV)}{env:En}(hl:fs.length < 1000)(e:m (some (.ref s.length) :: env) (s++.ins c fs :: t)=.ok v (s++.ins c fs :: t')):gW c f (mv 0) m (some (.ref s.length) :: env) (s++.ins c fs :: t)=.nx (some (.ref s.length) :: env) (s++.ins c (qP f v fs) :: t'):=by
 unfold gW
 simp only[e,i9,iF,IH]
 rw[if_pos hl,GI]
theorem uW {s t:S}{a:AO}{env:En}:vf env (s++a :: t)=.ok (.ref (s.length+(t.length+1))) (s++a :: (t++[.dK []])):=by
 unfold vf
 rw[List.length_append,List.length_cons,List.append_assoc];rfl
theorem FL {s t:S}{a:AO}{env:En}:aP (bS ae) env (s++a :: t)=.ok (.ref (s.length+(t.length+1))) (s++a :: (t++[.lst []])):=by
 apply R.wp.eq
 simp only[↓WS,↓WE,↓WV,Lq,af,UU,Nat.reduceSub,↓reduceIte,List.length_append,List.length_cons,List.append_assoc,List.cons_append]
theorem EG (s:S):ao [.ref s.length] (s++[.ins 9 []])=.ok .aC (s++[.ins 9 (n6 s.length 182),.dK [],.dK [],.dK [],.dK [],.dK [],.lst [],.lst []]):=by
 unfold ao gw
 refine p0 (env:=[some (.ref s.length)]) (e:=[some (.ref s.length)]) ?_
 rw[lz (iu (by show 0 < 1000;omega) uW),lz (iu (by show 1 < 1000;omega) uW),lz (iu (by show 2 < 1000;omega) uW),lz (iu (by show 3 < 1000;omega) uW),lz (iu (by show 4 < 1000;omega) uW),
  lz (iu (m:=mc ck) (v:=.int 182) (by show 5 < 1000;omega) rfl),lz (iu (by show 6 < 1000;omega) FL),iu (by show 7 < 1000;omega) FL]
 rfl
theorem wV (s:S)(env:En):cF 9 ao env s=.ok (.ref s.length) (s++[.ins 9 (n6 s.length 182),.dK [],.dK [],.dK [],.dK [],.dK [],.lst [],.lst []]):=by
 unfold cF
 rw[EG];rfl
theorem zf (s:S){B:Nat}(hB:s.length=B+8):cP [] s=.ok (.ref (B+14)) (s++[.lst [],.dK [],.lst [],.dK [],.lst [],.dK [],.dK (qE B 182),.lst [],.lst []]):=by
 have e1:jC [((mc (.str "people")),(aP (bS ae))),((mc (.str "works")),vf),((mc (.str "hands")),(aP (bS ae))),((mc (.str "known")),vf),((mc (.str "rates")),(aP (bS ae))),((mc (.str "keeps")),vf),((mc (.str "half")),(mc (.int 182)))] [none] s=.ok (.ref (B+14)) (s++[.lst [],.dK [],.lst [],.dK [],.lst [],.dK [],.dK [(.inr "people",.ref (B+8)),(.inr "works",.ref (B+9)),(.inr "hands",.ref (B+10)),(.inr "known",.ref (B+11)),(.inr "rates",.ref (B+12)),(.inr "keeps",.ref (B+13)),(.inr "half",.int 182)]]):=by
  have ln:∀ (t:S) (env:En),aP (bS ae) env t=.ok (.ref t.length) (t++[.lst []]):=λ t env=>by
   apply R.wp.eq
   walk_at "w"
  have ld:∀ (t:S) (env:En),vf env t=.ok (.ref t.length) (t++[.dK []]):=λ t env=>rfl
  unfold jC
  simp only[yN,mc,ay,ln,ld,pO,fY,Option.bind_some,Option.map_some,aq,List.append_assoc,List.cons_append,List.nil_append,List.length_append,List.length_cons,List.length_nil,hB]
  rw[if_pos (by show(7:Nat)<=15;omega)]
  rfl
 have g:∀ (t:S) (o:AO),(s++(t++[o]))[s.length+t.length]? = some o:=λ t o=>by
  rw[List.getElem?_append_right (by omega),List.getElem?_append_right (by omega)]
  rw[show s.length+t.length - s.length - t.length=0 by omega];rfl
 have rs_eq:∀ {r:RS}{a:AV}{t:S},r.wp (λ _ _=>False) (λ v s'=>v=a/\s'=t)->r=.rt a t:=λ {r a t} h=>by
  cases r with
  | rt v s'=>obtain⟨rfl,rfl⟩:=h;rfl
  | _=>exact h.elim
 unfold cP ju
 refine L_ (env:=[none]) (rs_eq ?_)
 simp only[↓WS,↓WE,↓WV,Lq,af,UU,Nat.reduceSub,↓reduceIte,↓aA e1]
 have L7:∀ (t:S),(s++t).length=s.length+t.length:=λ t=>List.length_append
 have dk:∀ (t:S) (kvs:List (Key × AV)),gA (s++[.lst [],.dK [],.lst [],.dK [],.lst [],.dK [],.dK kvs]++t) (B+14)=some kvs:=λ t kvs=>iL (by
  rw[List.append_assoc,List.getElem?_append_right (by omega),show B+14 - s.length=6 by omega];rfl)
 have st:∀ (t:S) (a b:AO),(s++[.lst [],.dK [],.lst [],.dK [],.lst [],.dK [],a]++t).set (B+14) b=s++[.lst [],.dK [],.lst [],.dK [],.lst [],.dK [],b]++t:=λ t a b=>by
  rw[List.append_assoc,List.append_assoc,List.set_append_right _ _ (by omega),show B+14 - s.length=6 by omega];rfl
 rw[oX]
 unfold pX
 simp only[↓WS,↓WE,↓WV,Lq,af,UU,Nat.reduceSub,↓reduceIte,bU]
 rw[List.append_assoc,qg (jT (dk _ _) (by show 7 < 1000;omega)),st]
 simp only[↓WS,↓WE,↓WV,Lq,af,UU,Nat.reduceSub,↓reduceIte,↓oX,bU]
 rw[qg (jT (dk _ _) (by
  refine Nat.lt_of_le_of_lt (ug _ _ _) (by show 7+1 < 1000;omega))),st]
 walk_at "w"
 simp only[List.length_append,List.length_cons,List.length_nil,hB]
 rw[List.append_assoc]
 rfl
structure LS (c d n B nl:Nat)(names:List Str)(V W:Wl)(s:S):Prop where
 dr:Dr c d n s
 at_:At B (mid B V W) s
 t0:s[0]? = some (.tab 20 hX)
 c0:0 < c/\c < B
 d0:0 < d/\d < B
 nm:ak s nl=some (names.map AV.str)
 n0:0 < nl/\nl < B/\nl≠c/\nl≠d
structure Wk (c d B:Nat)(s s':S):Prop where
 len:s.length<=s'.length
 get:∀ i,i < s.length->i≠c->i≠d->i < B∨B+17<=i->s'[i]? = s[i]?
theorem Wk.refl (c d B:Nat)(s:S):Wk c d B s s:=⟨Nat.le_refl _,λ _ _ _ _ _=>rfl⟩
theorem Wk.trans {c d B:Nat}{s s' ve:S}(h:Wk c d B s s')(k:Wk c d B s' ve):Wk c d B s ve:=⟨Nat.le_trans h.len k.len,λ i hi h1 h2 h3=>(k.get i (Nat.lt_of_lt_of_le hi h.len) h1 h2 h3).trans (h.get i hi h1 h2 h3)⟩
theorem Kp.wk {c d:Nat}{s s':S}(h:Kp c d s s')(B:Nat):Wk c d B s s':=⟨by rw[h.len];exact Nat.le_refl _,λ i _ h1 h2 _=>h.get i h1 h2⟩
theorem Ce.wk {B:Nat}{s s':S}(h:Ce B s s')(c d:Nat):Wk c d B s s':=⟨h.len,λ i hi _ _ k=>h.get i hi k⟩
section
variable {c d n B nl:Nat}{names:List Str}{V W:Wl}{s s':S}
theorem LS.P_ (h:LS c d n B nl names V W s):lW B V W s:=⟨h.at_,h.dr.cl,List.any_eq_true.mpr ⟨_,List.mem_of_getElem? h.t0,by simp[tabAt]⟩⟩
theorem LS.len (h:LS c d n B nl names V W s):B+17<=s.length:=h.at_.len (by show 0 < 17;omega)
theorem LS.kp {m:Nat}(h:LS c d n B nl names V W s)(k:Kp c d s s')(D:Dr c d m s'):LS c d m B nl names V W s':=by
 have c0:=h.c0
 have d0:=h.d0
 have n0:=h.n0
 exact⟨D,h.at_.keep λ i hi _=>k.get i (by omega) (by omega),(k.get 0 (by omega) (by omega)).trans h.t0,c0,d0,k.gk.lst (n:=0) n0.2.2.1 n0.2.2.2 h.nm,n0⟩
theorem LS.app (h:LS c d n B nl names V W s){e:S}(k:Cl (s++e)):LS c d n B nl names V W (s++e):=by
 have:=h.len
 exact⟨h.dr.app k,h.at_.app e,by rw[List.getElem?_append_left (by omega)];exact h.t0,h.c0,h.d0,ai h.nm,h.n0⟩
theorem LS.NI {V' W':Wl}(h:LS c d n B nl names V W s)(k:Ce B s s')(b:lW B V' W' s'):LS c d n B nl names V' W' s':=by
 have c0:=h.c0
 have d0:=h.d0
 have n0:=h.n0
 have hl:=h.len
 have g:∀ i,i < B->s'[i]? = s[i]?:=λ i hi=>k.get i (by omega) (.inl hi)
 obtain⟨⟨t,cells,h1,h2,h3⟩,_⟩:=h.dr
 exact⟨⟨⟨t,cells,by rw[g d d0.2];exact h1,by rw[g c c0.2];exact h2,h3⟩,b.cl⟩,b.at_,by rw[g 0 (by omega)];exact h.t0,c0,d0,cD (by rw[g nl n0.2.1];exact aB h.nm),n0⟩
theorem Ew (ok:∀ e∈W.kw,∃ a,e.2=kY a){b:Nat}(hb:B+17<=b):∀ o∈mid B V W,o.low b=true:=by
 intro o ho
 unfold mid at ho
 simp only[List.mem_cons,List.not_mem_nil,or_false]at ho
 rcases ho with rfl|rfl|rfl|rfl|rfl|rfl|rfl|rfl|rfl|rfl|rfl|rfl|rfl|rfl|rfl|rfl|rfl
 ·simp[AO.low,n6,aR,AV.low];omega
 ·exact j8 (λ _=>kK _ _) _
 ·exact j8 (λ _=>by simp[AV.low,aR]) _
 ·simp[AO.low,aR]
 ·simp[AO.low,aR]
 ·simp[AO.low,aR]
 ·simp[AO.low,aR]
 ·simp[AO.low,aR]
 ·exact cf _ _
 ·exact j8 (λ _=>by simp[AV.low,aR]) _
 ·simp[AO.low,aR]
 ·simp[AO.low,aR]
 ·simp[AO.low,aR]
 ·refine j9 λ v hv=>?_
  obtain⟨e,he,rfl⟩:=List.mem_map.mp hv
  obtain⟨a,ea⟩:=ok e he
  rw[ea];exact kK _ _
 ·simp[AO.low,qE,aR,AV.low];omega
 ·simp[AO.low,aR]
 ·simp[AO.low,aR]
end
structure Hd (r:R AV)(Q:AV->S->Prop):Prop where
 run:r.wp Q
theorem Hd.to {r:R AV}{P Q:AV->S->Prop}(h:Hd r P)(k:∀ v s,P v s->Q v s):r.wp Q:=h.run.mono k
theorem g_ {α:Type}{f:α->Dt}{k:Nat}:∀ {l:List α},(∀ a∈l,(f a).dep<=k)->dc (l.map f)<=k
 | [],_=>by simp[dc]
 | a :: r,h=>by
  rw[List.map_cons]
  have h1:=h a (.head _)
  have h2:=g_ (l:=r) λ b hb=>h b (.tail _ hb)
  simp only[dc];omega
theorem zq (V:Wl):(told V).dep < 9:=by
 have a1:dc ((av V.ps).map Dt.str)<=2:=g_ λ _ _=>by simp[Dt.dep]
 have a2:dc ((av V.ws).map Dt.str)<=2:=g_ λ _ _=>by simp[Dt.dep]
 have a3:dc ((av V.ws).map λ _=>Dt.tup [])<=2:=g_ λ _ _=>by simp[Dt.dep,dc]
 have a4:dc ((av V.ps).map λ _=>Dt.lst [])<=2:=g_ λ _ _=>by simp[Dt.dep,dc]
 have a5:dc ((av V.ws).map λ _=>Dt.aC)<=2:=g_ λ _ _=>by simp[Dt.dep]
 have a6:dc ((av V.ps).map λ p=>Dt.tup [.int (V.kf p).1,.int (V.kf p).2])<=2:=g_ λ _ _=>by simp[Dt.dep,dc]
 unfold told o6 t9 t6
 simp only[Dt.dep,List.cons_append,List.nil_append,dc]
 omega
section
variable {c d n B nl:Nat}{names:List Str}{V:Wl}{s:S}
theorem C4 (h:lW B V V s){m:Nat}(ok:yL m V)(hm:m < 64){K:AV->Prop}(k:K (.bl true)) :
  (bM [.ref B] s).wp λ v s1=>(bV [.ref (B+14)] s1).wp λ w s2=>(au 9 [v,w] s2).wp λ x s3=>(s3.take s.length=s/\x.low s.length=true)/\K x:=by
 have lp:=ok.lp
 have lw:=ok.lw
 refine(u_ rfl h (by omega) (by omega)).mono ?_
 rintro v s1 ⟨e,rfl,c1,r1⟩
 refine(wg (h.app c1.cl) (by omega) (by omega) λ p _=>ok.kw p).mono ?_
 rintro w s2 ⟨e2,rfl,c2,r2⟩
 rw[aA (sd (n:=9) (r1.zero.app e2) r2 (zq V))]
 refine⟨⟨?_,by simp[AV.low]⟩,k⟩
 rw[List.append_assoc];exact List.take_left
theorem xR (h:LS c d n B nl names V V s){m many:Nat}(ok:yL m V)(hm:m+many<=60)(hn:n<=700000000)(hN:0 < names.length)(SJ:names.length<=1000)(hs:∀ x∈names,x.length<=1000)
  {wl:Nat}{ws:List Str}(hw:ak s wl=some (ws.map AV.str)) (Ly:B+17<=wl) (TL:0 < ws.length) (TH:ws.length<=1000) (R9:∀ w∈ws,vh w) :
  Hd (cx [.ref d,.ref B,.ref (B+14),.ref nl,.ref wl,.int many] s) λ v s'=>v=.bl true/\∃ V',yL (m+many) V'/\LS c d (n+20 * many) B nl names V' V' s'/\Wk c d B s s':=by
 have c0:=h.c0
 have d0:=h.d0
 have n0:=h.n0
 constructor
 unfold cx iO
 have SW:∀ {n:Nat}{b:Ms}{a1 a2 a3 a4 a5 a6:AV}{s:S}{Q:AV->S->Prop},(b (some a1 :: some a2 :: some a3 :: some a4 :: some a5 :: some a6 :: List.replicate (n - 6) none) s).wp (λ _ s1=>Q .aC s1) Q->(eL n b [a1,a2,a3,a4,a5,a6] s).wp Q:=by
  intro n b a1 a2 a3 a4 a5 a6 s Q hh
  show(match b (some a1 :: some a2 :: some a3 :: some a4 :: some a5 :: some a6 :: List.replicate (n - 6) none) s with|.rt v s1=>R.ok v s1|.nx _ s1=>.ok .aC s1|.ex c s1=>.ex c s1|_=>.bad).wp Q
  revert hh
  cases b (some a1 :: some a2 :: some a3 :: some a4 :: some a5 :: some a6 :: List.replicate (n - 6) none) s<;>exact λ z=>z
 refine SW ?_
 simp only[↓WS,↓WE,↓WV,Lq,af,UU,Nat.reduceSub,↓reduceIte,↓oy]
 refine⟨⟨by omega,by omega⟩,?_⟩
 refine pZ (λ xs env st=>∃ (x6 x7 x8:Option AV) (z:Nat) (V':Wl),xs.length+z=many/\env=[some (.ref d),some (.ref B),some (.ref (B+14)),some (.ref nl),some (.ref wl),some (.int many),x6,x7,x8]/\yL (m+z) V'/\LS c d (n+20 * z) B nl names V' V' st/\Wk c d B s st) ?_ ?_ ?_ _ _ _ ⟨none,none,none,0,V,by simp[kS],rfl,ok,h,Wk.refl c d B s⟩
 ·rintro _ _ st _ p hp;cases hp
 ·rintro env st ⟨x6,x7,x8,z,V',hz,rfl,KH,h',w'⟩
  have hz:0+z=many:=hz
  rw[Nat.zero_add]at hz
  subst hz
  exact⟨V',KH,h',w'⟩
 ·rintro v r env st ⟨x6,x7,x8,z,V',hz,rfl,KH,h',w'⟩
  have hz:r.length+1+z=many:=hz
  have RT:wl < s.length:=(List.getElem?_eq_some_iff.mp (aB hw)).1
  have QL:ak st wl=some (ws.map AV.str):=cD (by rw[w'.get wl RT (by omega) (by omega) (.inr Ly)];exact aB hw)
  simp only[↓WS,↓WE,↓WV,Lq,af,UU,Nat.reduceSub,↓reduceIte,↓aA (nr QL),List.length_map]
  refine(gC h'.dr (by omega) (by omega) (qx (by omega) (by omega))).mono ?_
  rintro _ s1 ⟨j,rfl,j0,j1,D1,K1⟩
  have h1:=h'.kp K1 D1
  have O9:ak s1 wl=some (ws.map AV.str):=K1.gk.lst (n:=0) (by omega) (by omega) QL
  obtain⟨wv,R8,ew⟩:=w4 (s:=s1) (i:=wl) (j:=j) O9 j0 (by rw[List.length_map];exact j1)
  obtain⟨w,R_,rfl⟩:=List.mem_map.mp R8
  have SY:(need (ak s1 wl) λ xs=>need (jD xs j) λ v=>R.ok v s1)=.ok (.str w) s1:=ew
  simp only[↓WS,↓WE,↓WV,Lq,af,UU,Nat.reduceSub,↓reduceIte,↓aA SY]
  refine(Fc D1 (by omega) h1.nm hN SJ hs n0.2.2.1 n0.2.2.2 (R9 w R_)).mono ?_
  rintro _ s2 ⟨de,rfl,SE,D2,K2⟩
  have h2:=h1.kp K2 D2
  refine(BO h2.P_ KH (by omega) de).mono ?_
  rintro _ s3 ⟨rfl,b3,g3⟩
  have h3:=h2.NI g3.a b3
  refine(vA b3 KH (by omega) de SE).mono ?_
  rintro _ s4 ⟨rfl,b4,g4⟩
  have h4:=h3.NI g4 b4
  have Qy:=xq KH de
  rw[aA (same_str 8 (i6 V' de) s4)]
  simp only[jP,Bool.not_true,Bool.false_eq_true,if_false]
  rw[if_neg (by decide)]
  refine C4 b4 Qy (by omega) ?_
  rw[jP]
  dsimp only
  rw[if_neg (by decide)]
  exact⟨_,_,_,z+1,gI V' de,by omega,rfl,Qy,⟨h4.dr.mono (by omega),h4.at_,h4.t0,h4.c0,h4.d0,h4.nm,h4.n0⟩,(((w'.trans (K1.wk B)).trans (K2.wk B)).trans (g3.a.wk c d)).trans (g4.wk c d)⟩
theorem Fm (h:lW B V V s){j:Nat}{nm:List Str}(hl:ak s j=some (nm.map AV.str)) (hn:∀ x∈nm,x.length<=1000){K:AV->S->Prop}(k:∀ e,Cl (s++e)->K (.bl true) (s++e)):(bz [.ref B,.ref (B+14),.ref j] s).wp K:=
 (Fl h rfl rfl hl hn).mono λ v s' ⟨e1,e,e2,c⟩=>by subst e1 e2;exact k e c
end
theorem Ft {s:S}{i j:Nat}{xs ys:List AV}(h1:ak s i=some xs)(h2:ak s j=some ys)(k:xs.length+ys.length<=1000):du (.ref i) (.ref j) s=.ok (.ref s.length) (s++[AO.lst (xs++ys)]):=by
 show(need (ak s i) λ xs=>need (ak s j) λ ys=>if xs.length+ys.length<=sizeLine then R.ok (AV.ref s.length) (s++[AO.lst (xs++ys)]) else .bad)=_
 rw[h1,h2,aq,aq,if_pos (wA k)]
theorem uv {c d n:Nat}{s:S}(D:Dr c d n s)(hn:n<=900000000):(b8 [.ref d] s).wp λ v s'=>∃ (j:Nat) (zs:List Str),v=.ref j/\s.length<=j/\ak s' j=some (zs.map AV.str)/\zs.length=8/\(∀ z∈zs,z.length<=1000)/\zs.Nodup/\Dr c d (n+20) s'/\Gk c d s s':=by
 have lc:=D.Eu
 have ld:=D.Et
 unfold b8 gh
 walk_at "w"
 refine(AI D hn (by omega) (by omega)).mono ?_
 rintro _ s1 ⟨j,zs,rfl,hj,l1,l2,m1,nd,D1,G1⟩
 obtain⟨D2,K2,al⟩:=G1.cut D D1
 have MT:Cl (s1.take s.length++[AO.lst (zs.map AV.str)]):=D2.cl.add (by simp[AO.low,cf])
 have NH:Cl (s1.take s.length++[AO.lst (zs.map AV.str)]++[AO.lst [.str "never"]]):=MT.add (by simp[AO.low,aR,AV.low])
 have e1:(zs++[("never":Str)]).map AV.str=zs.map AV.str++[.str "never"]:=by simp
 have Tc:Cl (s1.take s.length++[AO.lst (zs.map AV.str)]++[AO.lst [.str "never"]]++[AO.lst ((zs++[("never":Str)]).map AV.str)]):=NH.add (by
  have:=cf
  simp only[List.all_cons,List.all_nil,AO.low,Bool.and_true];exact cf _ _)
 have e2:du (.ref (s1.take s.length).length) (.ref (s1.take s.length++[AO.lst (zs.map AV.str)]).length) (s1.take s.length++[AO.lst (zs.map AV.str)]++[AO.lst [.str "never"]])=.ok (.ref (s1.take s.length++[AO.lst (zs.map AV.str)]++[AO.lst [.str "never"]]).length) (s1.take s.length++[AO.lst (zs.map AV.str)]++[AO.lst [.str "never"]]++[AO.lst ((zs++[("never":Str)]).map AV.str)]):=by
  rw[Ft (ai (aF _ _)) (aF _ _) (by simp;omega),e1]
 simp only[↓WS,↓WE,↓WV,Lq,af,UU,Nat.reduceSub,↓reduceIte,l1,hj,al,cf,↓aA e2]
 refine⟨_,zs++[("never":Str)],rfl,?_,aF _ _,?_,?_,?_,(((D2.app MT).app NH).app Tc),((K2.gk.trans (Gk.app ..)).trans (Gk.app ..)).trans (Gk.app ..)⟩
 ·simp[K2.len]
 ·simp;omega
 ·intro z hz
  rcases List.mem_append.mp hz with hz|hz
  ·exact Aw z (m1 z hz)
  ·rw[List.mem_singleton.mp hz];decide
 ·refine List.nodup_append.mpr ⟨nd,by simp,λ x hx y hy e=>?_⟩
  rw[List.mem_singleton.mp hy]at e
  subst e
  exact absurd (m1 _ hx) (by decide +kernel)
def V0:Wl:=⟨[],λ _=>(0,1),[],[],182⟩
theorem Gb:yL 0 V0:=⟨λ _ _=>rfl,λ _=>rfl,λ _ h=>(nomatch h),Nat.le_refl _,Nat.le_refl _,Nat.le_refl _⟩
theorem AE (s:S)(env:En){Q:AV->AV->S->Prop}(k:Q (.ref s.length) (.ref (s.length+14)) (s++mid s.length V0 V0)):(cF 9 ao env s).wp λ v s1=>(cP [] s1).wp λ w s2=>Q v w s2:=by
 have e:=zf (s++[.ins 9 (n6 s.length 182),.dK [],.dK [],.dK [],.dK [],.dK [],.lst [],.lst []]) (B:=s.length) (by simp)
 rw[List.append_assoc]at e
 rw[aA (wV s env),aA e]
 exact k
theorem MQ (l:List Str)(lo hi:Option Int):∃ l':List Str,gf (l.map AV.str) lo hi=l'.map AV.str/\l'=gf l lo hi:=by
 refine⟨_,?_,rfl⟩
 unfold gf;rw[List.length_map,<-List.map_drop,<-List.map_take]
theorem xy {α:Type}{l:List α}{lo hi:Option Int}{x:α}(h:x∈gf l lo hi):x∈l:=by
 unfold gf at h
 exact List.mem_of_mem_drop (List.mem_of_mem_take h)
def jh (B:Nat):S:=[.ins 9 (n6 B 182),.dK [],.dK [],.dK [],.dK [],.dK [],.lst [],.lst []]
theorem sE {s:S}(c:Cl s):Cl (s++jh s.length):=c.add (by
 have e:(jh s.length).length=8:=rfl
 rw[e]
 simp[jh,AO.low,n6,aR,AV.low])
theorem vK (s:S):(s++jh s.length)[s.length]? = some (.ins 9 (n6 s.length 182)):=by
 rw[List.getElem?_append_right (Nat.le_refl _),Nat.sub_self];rfl
theorem sF {F:List AV->S->R AV}{m:Str}{env:En}{s:S}(l:((["keeps","rows","hands","makers","rates","half","money","debts"]:List Str).any λ f=>m == f)=false):aI 9 m 0 F (cF 9 ao) ae env s=F [.ref s.length] (s++jh s.length):=by
 unfold aI
 rw[wV,ay]
 show(need (mE 9 (.ref s.length) (s++jh s.length)) λ p=>if p.2.lookup m=none then ((ae env (s++jh s.length)).bind λ vs s2=>if vs.length=0 then F (.ref s.length :: vs) s2 else .bad) else .bad)=_
 rw[jm (vK s),aq,if_pos (xl s.length 182 l)]
 rfl
theorem DT (s:S)(env:En):aI 9 "half_days" 0 aL (cF 9 ao) ae env s=.ok (.int 182) (s++jh s.length):=by
 rw[sF (by decide +kernel)]
 apply R.wp.eq
 unfold aL dM
 simp only[↓WS,↓WE,↓WV,Lq,af,UU,Nat.reduceSub,↓reduceIte,↓aA (dS (vK s) (xm s.length 182))]
theorem pJ {s e:S}(t:s.any (tabAt 20 hX)=true):(s++e).any (tabAt 20 hX)=true:=by rw[List.any_append,t];rfl
theorem AH {s:S}{f:Str}{v:AV}{l:En}(k:(n6 s.length 182).lookup f=some v):cC (cE 9 f) (mv 0) (some (.ref s.length) :: l) (s++jh s.length)=.ok v (s++jh s.length):=by
 unfold cC
 rw[iF,ay]
 exact dS (vK s) k
theorem AG (s:S)(j:Nat)(h:j=6∨j=7):ak (s++jh s.length) (s.length+j)=some []:=cD (by
 rw[List.getElem?_append_right (by omega),show s.length+j - s.length=j by omega]
 rcases h with rfl|rfl<;>rfl)
theorem AF {s:S}(c:Cl s)(t:s.any (tabAt 20 hX)=true) (env:En):aI 9 "money_list" 0 aH (cF 9 ao) ae env s=.ok (.ref (s++jh s.length).length) (s++jh s.length++[.lst []]):=by
 rw[sF (by decide +kernel)]
 apply R.wp.eq
 have e:∀ l,aE 1 cL (aa (cC (cE 9 "money") (mv 0)) ae) (some (.ref s.length) :: l) (s++jh s.length)=.ok (.ref (s++jh s.length).length) (s++jh s.length++[.lst []]):=λ l=>by
  unfold aE aa ae
  rw[AH (uI s.length 182)]
  exact iB (AG s 6 (.inl rfl)) (pJ t)
 unfold aH di
 simp only[↓WS,↓WE,↓WV,Lq,af,UU,Nat.reduceSub,↓reduceIte,↓aA (take_nil (sE c) (e _))]
theorem DU {s:S}(c:Cl s)(t:s.any (tabAt 20 hX)=true) (env:En):aI 9 "debt_list" 0 aM (cF 9 ao) ae env s=.ok (.ref (s++jh s.length).length) (s++jh s.length++[.lst []]):=by
 rw[sF (by decide +kernel)]
 apply R.wp.eq
 have e:∀ l,aE 1 cL (aa (cC (cE 9 "debts") (mv 0)) ae) (some (.ref s.length) :: l) (s++jh s.length)=.ok (.ref (s++jh s.length).length) (s++jh s.length++[.lst []]):=λ l=>by
  unfold aE aa ae
  rw[AH (uJ s.length 182)]
  exact iB (AG s 7 (.inr rfl)) (pJ t)
 unfold aM dN
 simp only[↓WS,↓WE,↓WV,Lq,af,UU,Nat.reduceSub,↓reduceIte,↓aA (take_nil (sE c) (e _))]
noncomputable def HD:Ev:=Cq (aE 2 (au 9) (aa (aP (bS (aa (aI 9 "half_days" 0 aL (cF 9 ao) ae) (aa (aI 9 "money_list" 0 aH (cF 9 ao) ae) (aa (aI 9 "debt_list" 0 aM (cF 9 ao) ae) ae))))) (aa (aP (bS (aa (mc (.int 182)) (aa (aP (bS ae)) (aa (aP (bS ae)) ae))))) ae)))
theorem AD {s:S}(c:Cl s)(t:s.any (tabAt 20 hX)=true) (env:En):HD env s=.ok (.bl true) s:=by
 have c1:=sE c
 have t1:(s++jh s.length).any (tabAt 20 hX)=true:=pJ t
 apply R.wp.eq
 unfold HD
 simp only[↓WS,↓WE,↓WV,Lq,af,UU,Nat.reduceSub,↓reduceIte,↓aA (DT s env),↓aA (AF c1 t1 env)]
 obtain⟨e1,QW⟩:∃ e,s++jh s.length=s++e:=⟨_,rfl⟩
 generalize s++jh s.length=s1 at c1 t1 QW ⊢
 have c2:Cl (s1++jh s1.length++[AO.lst []]):=(sE c1).add (by simp[AO.low,aR])
 have t2:(s1++jh s1.length++[AO.lst []]).any (tabAt 20 hX)=true:=pJ (pJ t1)
 have l2:ak (s1++jh s1.length++[AO.lst []]) (s1++jh s1.length).length=some []:=aF _ _
 obtain⟨e2,xf⟩:∃ e,s1++jh s1.length++[AO.lst []]=s++e:=⟨e1++(jh s1.length++[AO.lst []]),by rw[QW];simp⟩
 generalize (s1++jh s1.length).length=j2 at l2 ⊢
 generalize s1++jh s1.length++[AO.lst []]=s2 at c2 t2 l2 xf ⊢
 simp only[↓WS,↓WE,↓WV,Lq,af,UU,Nat.reduceSub,↓reduceIte,↓aA (DU c2 t2 env)]
 have l3:ak (s2++jh s2.length++[AO.lst []]) (s2++jh s2.length).length=some []:=aF _ _
 have QJ:ak (s2++jh s2.length++[AO.lst []]) j2=some []:=ai (ai l2)
 obtain⟨e3,QV⟩:∃ e,s2++jh s2.length++[AO.lst []]=s++e:=⟨e2++(jh s2.length++[AO.lst []]),by rw[xf];simp⟩
 generalize (s2++jh s2.length).length=j3 at l3 ⊢
 generalize s2++jh s2.length++[AO.lst []]=s3 at l3 QJ QV ⊢
 have r:∀ (q:S) (i a b:Nat),ak q i=some [.int 182,.ref a,.ref b]->ak q a=some []->ak q b=some []->Rp 0 q (.lst [.int 182,.lst [],.lst []]) (.ref i):=λ q i a b h1 h2 h3=>by
  unfold Rp
  refine⟨i,_,rfl,Nat.zero_le _,h1,by simp,?_⟩
  unfold cw
  refine⟨_,_,rfl,by unfold Rp;rfl,?_⟩
  unfold cw
  refine⟨_,_,rfl,by unfold Rp;exact⟨_,_,rfl,Nat.zero_le _,h2,by simp,by unfold cw;rfl⟩,?_⟩
  unfold cw
  exact⟨_,_,rfl,by unfold Rp;exact⟨_,_,rfl,Nat.zero_le _,h3,by simp,by unfold cw;rfl⟩,by unfold cw;rfl⟩
 rw[aA (sd (n:=9) (r _ _ _ _ (ai (ai (ai (aF _ _)))) (ai (ai (ai (ai QJ)))) (ai (ai (ai (ai l3))))) (r _ _ _ _ (aF _ _) (ai (ai (aF _ _))) (ai (aF _ _))) (by simp[Dt.dep,dc]))]
 refine⟨⟨?_,by simp[AV.low]⟩,rfl⟩
 rw[QV]
 simp only[List.append_assoc]
 exact List.take_left
theorem LS.start {c d n nl:Nat}{names:List Str}{s:S}(D:Dr c d n s)(t0:s[0]? = some (.tab 20 hX)) (c0:0 < c)(d0:0 < d)(nm:ak s nl=some (names.map AV.str)) (n0:0 < nl)(nc:nl≠c)(nd:nl≠d):LS c d n s.length nl names V0 V0 (s++mid s.length V0 V0):=by
 have lc:=D.Eu
 have ld:=D.Et
 have ln:=(List.getElem?_eq_some_iff.mp (aB nm)).1
 have NH:Cl (s++mid s.length V0 V0):=D.cl.add (by
  rw[List.all_eq_true]
  exact Ew Gb.kf (Nat.le_refl _))
 exact⟨D.app NH,At.new _ _,by rw[List.getElem?_append_left (by omega)];exact t0,⟨c0,by omega⟩,⟨d0,by omega⟩,ai nm,⟨n0,by omega,nc,nd⟩⟩
theorem B9 {c d n nl j:Nat}{names n5:List Str}{s:S}(D:Dr c d n s)(hn:n<=800000000)(t0:s[0]? = some (.tab 20 hX)) (c0:0 < c)(d0:0 < d)(nm:ak s nl=some (names.map AV.str)) (n0:0 < nl)(nc:nl≠c)(nd:nl≠d)
  (hj:ak s j=some (n5.map AV.str)) (h5:n5.length<=8) (hs:∀ x∈n5,x.length<=1000) (OO:n5.Nodup) :
  Hd (cQ [.ref d,.ref j] s) λ v s'=>v=.tup [.ref s.length,.ref (s.length+14)]/\∃ V,yL 8 V/\LS c d (n+20) s.length nl names V V s':=by
 have H:=LS.start D t0 c0 d0 nm n0 nc nd
 constructor
 unfold cQ jw
 walk_at "w"
 refine AE _ _ ?_
 generalize hB:s.length=B at H ⊢
 obtain⟨n7,S2,ee⟩:=MQ n5 none (some 7)
 have QR:=ai (e:=mid B V0 V0) hj
 generalize s++mid B V0 V0=s1 at H QR ⊢
 have e2:yg (.ref j) none (some 7) s1=.ok (.ref s1.length) (s1++[AO.lst (n7.map AV.str)]):=by
  show(need (ak s1 j) λ xs=>R.ok (AV.ref s1.length) (s1++[AO.lst (gf xs none (some 7))]))=_
  rw[QR,aq,S2]
 have hl:=H.len
 have H1:=H.app (e:=[AO.lst (n7.map AV.str)]) (H.dr.cl.add (by simp only[List.all_cons,List.all_nil,AO.low,Bool.and_true];exact cf _ _))
 have l7:=aF s1 (n7.map AV.str)
 have ON:n7.Nodup:=by
  rw[ee];unfold gf
  exact(List.take_sublist ..).nodup ((List.drop_sublist ..).nodup OO)
 have RW:n7.length<=8:=by
  rw[ee];unfold gf
  rw[List.length_take,List.length_drop];omega
 have OV:s1.length < (s1++[AO.lst (n7.map AV.str)]).length:=by simp
 simp only[↓WS,↓WE,↓WV,Lq,af,UU,Nat.reduceSub,↓reduceIte,↓aA e2,↓aA (jK l7)]
 generalize s1.length=j7 at l7 hl OV ⊢
 generalize s1++[AO.lst (n7.map AV.str)]=s2 at H1 l7 OV ⊢
 refine pZ (λ xs env st=>∃ (r:List Str) (x2 x5:Option AV) (z:Nat) (V:Wl),xs=r.map AV.str/\r.length+z=n7.length/\r.Nodup/\(∀ x∈r,x.length<=1000/\x∉V.ps/\x∉V.ws)/\env=[some (.ref d),some (.ref j),x2,some (.ref B),some (.ref (B+14)),x5]/\yL z V/\LS c d (n+2 * z) B nl names V V st/\Wk c d B s2 st) ?_ ?_ ?_ _ _ _ ⟨n7,none,none,0,V0,rfl,rfl,ON,λ x hx=>⟨hs x (xy (ee ▸ hx)),(nomatch ·),(nomatch ·)⟩,rfl,Gb,H1,Wk.refl ..⟩
 ·rintro _ _ st ⟨_,_,_,_,_,_,_,_,_,_,_,_,w⟩ p hp
  rw[List.mem_singleton.mp hp]
  have c0:=H1.c0
  have d0:=H1.d0
  exact cD (by rw[w.get j7 OV (by omega) (by omega) (.inr hl)];exact aB l7)
 ·rintro env st ⟨r,x2,x5,z,V,hr,hz,_,_,rfl,ok,h,_⟩
  cases r with
  | cons _ _=>cases hr
  | nil=>
   have hz:0+z=n7.length:=hz
   walk_at "w"
   exact⟨V,⟨ok.k0,ok.kw,ok.kf,by have:=ok.lp;omega,by have:=ok.lw;omega,by have:=ok.lk;omega⟩,⟨h.dr.mono (by omega),h.at_,h.t0,h.c0,h.d0,h.nm,h.n0⟩⟩
 ·rintro v r env st ⟨r',x2,x5,z,V,hr,hz,QD,hx,rfl,ok,h,w⟩
  cases r' with
  | nil=>cases hr
  | cons x r'=>
   cases hr
   have hz:r'.length+1+z=n7.length:=hz
   obtain⟨x1,xp,xw⟩:=hx x (.head _)
   walk_at "w"
   refine(z0 h.dr (by omega) (P:=λ v=>v=.str "person"∨v=.str "work") rfl (by simp) (by simp) ?_).mono ?_
   ·intro v hv
    simp only[List.mem_cons,List.not_mem_nil,or_false]at hv
    rcases hv with rfl|rfl
    ·exact⟨.inl rfl,λ b=>by simp[AV.low]⟩
    ·exact⟨.inr rfl,λ b=>by simp[AV.low]⟩
   rintro _ s3 ⟨wv,ev,hw,lo,al,D3,K3⟩
   rw[aA ev]
   refine⟨⟨al,lo⟩,?_⟩
   have h3:=h.kp K3 D3
   generalize s3.take st.length=s4 at D3 K3 h3 ⊢
   obtain⟨de,ed,RO,S6,S5⟩:∃ de:De,AV.tup [wv,.str x]=dv de/\de.nm/\i6 V de=""/\(gI V de={ V with ps:=V.ps++[x] }∨gI V de={ V with ws:=V.ws++[x] }):=by
    rcases hw with rfl|rfl
    ·exact⟨.person x,rfl,x1,if_neg (by simp[xp,xw]),.inl (if_neg (by simp[xp,xw]))⟩
    ·exact⟨.work x,rfl,x1,if_neg (by simp[xp,xw]),.inr (if_neg (by simp[xp,xw]))⟩
   rw[ed]
   refine(BO h3.P_ ok (by omega) de).mono ?_
   rintro _ s5 ⟨_,b5,g5⟩
   have SS:=h3.NI g5.a b5
   rcases uR b5 ok (by omega) de RO with⟨_,s6,e6,b6,g6⟩|⟨cc,k,_⟩
   ·rw[aA e6]
    have h6:=SS.NI g6.a b6
    have RK:=xq ok de
    refine⟨r',_,_,z+1,gI V de,rfl,by omega,(List.nodup_cons.mp QD).2,λ y hy=>?_,rfl,RK,⟨h6.dr.mono (by omega),h6.at_,h6.t0,h6.c0,h6.d0,h6.nm,h6.n0⟩,((w.trans (K3.wk B)).trans (g5.a.wk c d)).trans (g6.a.wk c d)⟩
    obtain⟨y1,y2,y3⟩:=hx y (.tail _ hy)
    have ne:y≠x:=λ e=>(List.nodup_cons.mp QD).1 (e ▸ hy)
    rcases S5 with e|e
    ·rw[e];exact⟨y1,by simp[y2,ne],y3⟩
    ·rw[e];exact⟨y1,y2,by simp[y3,ne]⟩
   ·rw[S6]at k
    rcases k with⟨_,k⟩|⟨_,k⟩
    ·exact absurd k (by decide)
    ·exact absurd k (by decide)
theorem Iv (ns:List Int):(p8 [.sq (ns.map AV.int)] (tabS [(20,"by_days.<locals>.<lambda>")])).wp λ v _=>v=.bl true:=by
 have Td:Cl (tabS [(20,"by_days.<locals>.<lambda>")]):=rfl
 unfold p8 B'
 rw[show Cq (aE 2 (au 9) (aa (aP (bS (aa (aI 9 "half_days" 0 aL (cF 9 ao) ae) (aa (aI 9 "money_list" 0 aH (cF 9 ao) ae) (aa (aI 9 "debt_list" 0 aM (cF 9 ao) ae) ae))))) (aa (aP (bS (aa (mc (.int 182)) (aa (aP (bS ae)) (aa (aP (bS ae)) ae))))) ae)))=HD from rfl]
 walk_at "w"
 refine(B_ ns Td).mono ?_
 rintro _ s0 ⟨c,d,e0,rfl,es,D0,c0,d0⟩
 have t0:s0[0]? = some (.tab 20 hX):=by rw[es];rfl
 have c0:0 < c:=c0
 have d0:0 < d:=d0
 clear es
 refine(uv D0 (by omega)).mono ?_
 rintro _ s1 ⟨j,names,rfl,hj,l1,ln,nm,OO,D1,G1⟩
 obtain⟨D2,K2,al⟩:=G1.cut D0 D1
 have t2:(s1.take s0.length)[0]? = some (.tab 20 hX):=by rw[K2.get 0 (by omega) (by omega)];exact t0
 simp only[↓WS,↓WE,↓WV,Lq,af,UU,Nat.reduceSub,↓reduceIte,l1,hj,al,cf]
 generalize s1.take s0.length=s2 at D2 K2 t2 ⊢
 have lc:=D2.Eu
 have ld:=D2.Et
 have D3:=D2.app (e:=[AO.lst (names.map AV.str)]) (D2.cl.add (by simp only[List.all_cons,List.all_nil,AO.low,Bool.and_true];exact cf _ _))
 have t3:(s2++[AO.lst (names.map AV.str)])[0]? = some (.tab 20 hX):=by rw[List.getElem?_append_left (by omega)];exact t2
 have l3:=aF s2 (names.map AV.str)
 generalize So:s2.length=nl at l3 ⊢
 rw[So]at lc ld
 generalize s2++[AO.lst (names.map AV.str)]=s3 at D3 t3 l3 ⊢
 rw[aA (AD D3.cl (List.any_eq_true.mpr ⟨_,List.mem_of_getElem? t3,by simp[tabAt]⟩) _)]
 rw[jP]
 dsimp only
 rw[if_neg (by decide)]
 obtain⟨n5,S3,ee⟩:=MQ names none (some 5)
 have e4:yg (.ref nl) none (some 5) s3=.ok (.ref s3.length) (s3++[AO.lst (n5.map AV.str)]):=by
  show(need (ak s3 nl) λ xs=>R.ok (AV.ref s3.length) (s3++[AO.lst (gf xs none (some 5))]))=_
  rw[l3,aq,S3]
 rw[aA e4]
 have RU:0 < s3.length:=(List.getElem?_eq_some_iff.mp t3).1
 have D4:=D3.app (e:=[AO.lst (n5.map AV.str)]) (D3.cl.add (by simp only[List.all_cons,List.all_nil,AO.low,Bool.and_true];exact cf _ _))
 have t4:(s3++[AO.lst (n5.map AV.str)])[0]? = some (.tab 20 hX):=by rw[List.getElem?_append_left RU];exact t3
 have l4:=aF s3 (n5.map AV.str)
 have QI:=ai (e:=[AO.lst (n5.map AV.str)]) l3
 generalize s3.length=j5 at l4 ⊢
 generalize s3++[AO.lst (n5.map AV.str)]=s4 at D4 t4 l4 QI ⊢
 have b4:=B9 D4 (by omega) t4 c0 d0 QI (by omega) (by omega) (by omega) l4 (by rw[ee];unfold gf;rw[List.length_take,List.length_drop];omega) (λ x hx=>nm x (xy (ee ▸ hx))) (by
  rw[ee];unfold gf
  exact(List.take_sublist ..).nodup ((List.drop_sublist ..).nodup OO))
 generalize cQ [.ref d,.ref j5] s4=rr at b4 ⊢
 refine b4.to ?_
 rintro _ s5 ⟨rfl,V,ok,h⟩
 generalize s4.length=B at h ⊢
 walk_at "w"
 refine⟨wA (by simp),?_⟩
 have hl:=h.len
 have h6:=h.app (e:=[AO.lst [AV.str "keep",AV.str "keep",AV.str "half",AV.str "person",AV.str "work"]]) (h.dr.cl.add (by simp[AO.low,aR,AV.low]))
 have lw:=aF s5 [AV.str "keep",AV.str "keep",AV.str "half",AV.str "person",AV.str "work"]
 generalize s5.length=j6 at hl lw ⊢
 generalize s5++[AO.lst [AV.str "keep",AV.str "keep",AV.str "half",AV.str "person",AV.str "work"]]=s6 at h6 lw ⊢
 refine(gC h6.dr (by omega) (by omega) (qx (by omega) (by omega))).mono ?_
 rintro _ s7 ⟨q,rfl,q0,q1,D7,K7⟩
 have h7:=h6.kp K7 D7
 have RQ:ak s7 j6=some (([("keep":Str),"keep","half","person","work"]).map AV.str):=K7.gk.lst (n:=0) (by have:=h.c0;omega) (by have:=h.d0;omega) lw
 obtain⟨many,em⟩:∃ many:Nat,(15+q:Int)=many:=⟨(15+q).toNat,by omega⟩
 have e7:du (.int 15) (.int q) s7=.ok (.int many) s7:=by rw[<-em];rfl
 rw[aA e7]
 have w7:=xR (many:=many) h7 ok (by omega) (by omega) (by omega) (by omega) nm RQ hl (by show 0 < 5;omega) (by show 5<=1000;omega) (by
  intro w hw
  simp only[List.mem_cons,List.not_mem_nil,or_false]at hw
  unfold vh
  rcases hw with rfl|rfl|rfl|rfl|rfl
  ·exact .inr (.inr (.inr rfl))
  ·exact .inr (.inr (.inr rfl))
  ·exact .inr (.inr (.inl rfl))
  ·exact .inl rfl
  ·exact .inr (.inl rfl))
 refine⟨rfl,?_⟩
 generalize cx [.ref d,.ref B,.ref (B+14),.ref nl,.ref j6,.int many] s7=rr at w7 ⊢
 refine w7.to ?_
 rintro _ s8 ⟨rfl,V8,Tw,h8,_⟩
 rw[jP]
 dsimp only
 rw[if_neg (by decide)]
 exact Fm h8.P_ h8.nm nm λ e ce=>rfl
end Ro
namespace PySem.W.Fast
theorem tw17375658226330123966:True:=⟨⟩
theorem tw6665681329419421714:True:=⟨⟩
theorem tw1008386167120222310:True:=⟨⟩
theorem tw9355213419113571188:True:=⟨⟩
theorem tw13538082746294913046:True:=⟨⟩
theorem tw5105699368644381335:True:=⟨⟩
theorem tw9270525741647260803:True:=⟨⟩
theorem tw7682804799533490101:True:=⟨⟩
theorem tw7502727012970492714:True:=⟨⟩
theorem tw10808804217297904102:True:=⟨⟩
theorem tw4003163902666592100:True:=⟨⟩
theorem tw2757216828024969927:True:=⟨⟩
theorem tw11471926194524512412:True:=⟨⟩
theorem tw2451176601714329511:True:=⟨⟩
theorem tw7114319122923600203:True:=⟨⟩
theorem tw11870529295984581223:True:=⟨⟩
theorem tw16291287435921906978:True:=⟨⟩
theorem tw4160293893116334051:True:=⟨⟩
theorem tw5048833562306513656:True:=⟨⟩
theorem tw6415045508110432187:True:=⟨⟩
theorem tw18047867849714168517:True:=⟨⟩
theorem tw5519633486219988998:True:=⟨⟩
theorem tw9561599133224081147:True:=⟨⟩
theorem tw13943577669326521223:True:=⟨⟩
theorem tw15927007483577310137:True:=⟨⟩
theorem tw15778444957825376748:True:=⟨⟩
theorem tw3406291040851577731:True:=⟨⟩
theorem tw15440126935658657854:True:=⟨⟩
theorem tw16936100083606015903:True:=⟨⟩
theorem tw7765704371087893062:True:=⟨⟩
theorem tw9082858342115859535:True:=⟨⟩
theorem tw504971850048669225:True:=⟨⟩
theorem tw2640340811275499552:True:=⟨⟩
theorem tw6513570442549482347:True:=⟨⟩
theorem tw3199708909053681148:True:=⟨⟩
theorem tw8709992518891643330:True:=⟨⟩
theorem tw16779514232001413284:True:=⟨⟩
theorem tw14759196700265293570:True:=⟨⟩
theorem tw11702740645352329021:True:=⟨⟩
theorem tw14542250195215713698:True:=⟨⟩
theorem tw3475432330769165559:True:=⟨⟩
theorem tw15487669220598774008:True:=⟨⟩
theorem tw580302654820723346:True:=⟨⟩
theorem tw10453507037201153668:True:=⟨⟩
theorem tw12602224971789689028:True:=⟨⟩
theorem tw17432825151540218229:True:=⟨⟩
theorem tw9802886318712483385:True:=⟨⟩
theorem tw9976595652619578859:True:=⟨⟩
theorem tw8246540849228770972:True:=⟨⟩
theorem tw14771122582927054801:True:=⟨⟩
theorem tw17614795134919203942:True:=⟨⟩
theorem tw16946682673685265319:True:=⟨⟩
theorem tw10048793547904763640:True:=⟨⟩
theorem tw18170124044396478194:True:=⟨⟩
theorem tw13568915936076800463:True:=⟨⟩
theorem tw9765216551992006410:True:=⟨⟩
theorem tw4246078884969632601:True:=⟨⟩
theorem tw10587468449166981311:True:=⟨⟩
theorem tw3952887722084765984:True:=⟨⟩
theorem tw1226622849152484068:True:=⟨⟩
theorem tw13438985179020207614:True:=⟨⟩
theorem tw14212644183716471306:True:=⟨⟩
theorem tw6717863266025089376:True:=⟨⟩
theorem tw4480010585077062542:True:=⟨⟩
theorem tw2480221303654717493:True:=⟨⟩
theorem tw17274083240855618738:True:=⟨⟩
theorem tw2800697739056430818:True:=⟨⟩
theorem tw6614163668969946763:True:=⟨⟩
theorem tw14861844583150647372:True:=⟨⟩
theorem tw9578779634048825349:True:=⟨⟩
theorem tw6472926071826602082:True:=⟨⟩
theorem tw15315179809143237861:True:=⟨⟩
theorem tw13049234202248195314:True:=⟨⟩
theorem tw13713762707163499757:True:=⟨⟩
theorem tw3082216568978820657:True:=⟨⟩
theorem tw11417127798053728084:True:=⟨⟩
theorem tw12712460992305879726:True:=⟨⟩
theorem tw10622265426641341615:True:=⟨⟩
theorem tw10554724622478681594:True:=⟨⟩
theorem tw6847627597869258163:True:=⟨⟩
theorem tw14889666221703342011:True:=⟨⟩
theorem tw12877409897809307247:True:=⟨⟩
theorem tw15984033988152688038:True:=⟨⟩
theorem tw5416940288309623395:True:=⟨⟩
theorem tw6632278783503354023:True:=⟨⟩
theorem tw15392099841037606913:True:=⟨⟩
theorem tw14820346805537254242:True:=⟨⟩
theorem tw5349815879344165985:True:=⟨⟩
theorem tw15205799385977002294:True:=⟨⟩
theorem tw5807881711832795224:True:=⟨⟩
theorem tw15729714933042657344:True:=⟨⟩
theorem tw17169938240130250647:True:=⟨⟩
theorem tw12332184514647024550:True:=⟨⟩
theorem tw9216119135762031633:True:=⟨⟩
theorem tw10395222093097054381:True:=⟨⟩
theorem tw18408511018587429042:True:=⟨⟩
theorem tw11350905326955474021:True:=⟨⟩
theorem tw1405748172311649686:True:=⟨⟩
theorem tw7343062386247150796:True:=⟨⟩
theorem tw4000745822439729228:True:=⟨⟩
theorem tw3621142117253730749:True:=⟨⟩
theorem tw18391730893768725514:True:=⟨⟩
theorem tw2257356218822304473:True:=⟨⟩
theorem tw16650750758647846826:True:=⟨⟩
theorem tw13752672344662358566:True:=⟨⟩
theorem tw12908865225851703195:True:=⟨⟩
theorem tw6111663665029598090:True:=⟨⟩
theorem tw6285510037952603190:True:=⟨⟩
theorem tw3213738683343912563:True:=⟨⟩
theorem tw6043483942433047816:True:=⟨⟩
theorem tw15554152549160813863:True:=⟨⟩
theorem tw9932152005553692321:True:=⟨⟩
theorem tw6151647022054198240:True:=⟨⟩
theorem tw3461835460950806459:True:=⟨⟩
theorem tw12890901442112652619:True:=⟨⟩
theorem tw16472350489434844511:True:=⟨⟩
theorem tw1077351233608510802:True:=⟨⟩
theorem tw7415173884845049270:True:=⟨⟩
theorem tw16609637467667680269:True:=⟨⟩
theorem tw8405957573754117916:True:=⟨⟩
theorem tw7890999738727921456:True:=⟨⟩
theorem tw11795108233153119232:True:=⟨⟩
theorem tw7984948713216431725:True:=⟨⟩
theorem tw12702712876797492513:True:=⟨⟩
theorem tw14403852970677098008:True:=⟨⟩
theorem tw10260249283947224119:True:=⟨⟩
theorem tw16328575294695475722:True:=⟨⟩
theorem tw14488105404425048763:True:=⟨⟩
theorem tw8429458444035896472:True:=⟨⟩
theorem tw13840100395592452486:True:=⟨⟩
theorem tw8516079940628191360:True:=⟨⟩
theorem tw535518214477800227:True:=⟨⟩
theorem tw145997308404844968:True:=⟨⟩
theorem tw13253740507449903998:True:=⟨⟩
theorem tw6526673155409683429:True:=⟨⟩
theorem tw2961475104451214604:True:=⟨⟩
theorem tw17354916173618427591:True:=⟨⟩
theorem tw1449603885251175086:True:=⟨⟩
theorem tw9955420006128715489:True:=⟨⟩
theorem tw14780596759907962854:True:=⟨⟩
theorem tw17647173705374590994:True:=⟨⟩
theorem tw10756815941071555538:True:=⟨⟩
theorem tw5229620649155691299:True:=⟨⟩
theorem tw16358585536948086243:True:=⟨⟩
theorem tw15376802936377347735:True:=⟨⟩
theorem tw7545674586616029688:True:=⟨⟩
theorem tw18217318444313011556:True:=⟨⟩
theorem tw3441588322992773283:True:=⟨⟩
theorem tw12325787342256740691:True:=⟨⟩
theorem tw12878039240486425986:True:=⟨⟩
theorem tw9684747088259321785:True:=⟨⟩
theorem tw11045327482715959664:True:=⟨⟩
theorem tw13784164151886081720:True:=⟨⟩
theorem tw11544256629655229496:True:=⟨⟩
theorem tw9391325867742869386:True:=⟨⟩
theorem tw7897132455181867007:True:=⟨⟩
theorem tw7671494418736241049:True:=⟨⟩
theorem tw5064865350613123492:True:=⟨⟩
theorem tw4948347363687730503:True:=⟨⟩
theorem tw3854505671216779891:True:=⟨⟩
theorem tw17066273651873896178:True:=⟨⟩
theorem tw906167322087395702:True:=⟨⟩
theorem tw8567818157934267952:True:=⟨⟩
theorem tw11918789725520273200:True:=⟨⟩
theorem tw14340324369752531291:True:=⟨⟩
theorem tw9212304283267934008:True:=⟨⟩
theorem tw18219645336200284064:True:=⟨⟩
theorem tw14766056003802501137:True:=⟨⟩
theorem tw13703316737911334474:True:=⟨⟩
theorem tw16190452305764284341:True:=⟨⟩
theorem tw14265884833604263882:True:=⟨⟩
theorem tw5203805713743723485:True:=⟨⟩
theorem tw15920752176858833906:True:=⟨⟩
theorem tw3611842884808588746:True:=⟨⟩
end PySem.W.Fast
open PySem PySem.W PyProof.Rows
set_option maxRecDepth 100000 in
set_option maxHeartbeats 0 in
theorem PySem.Challenge.cw_royaltree_k16_keeps_and_halves_holds : PySem.Challenge.rw_royaltree_k16_keeps_and_halves.Holds := by
 w_on;o_law;k_head;(case hw=>w_witness2)
 k_fill
 refine Ro.JR (l:=PySem.Challenge.rw_royaltree_k16_keeps_and_halves) _ [(20,"by_days.<locals>.<lambda>")] Ro.p8 12 (by decide) ⟨rfl,by decide,by decide⟩ Ro.Iv rfl rfl (λ w h Y=>PySem.W.km_in_of Y) (λ w h Y=>PySem.W.km_tabs_of Y) ?TC ?TK ?F
 case TC=>
  intro w h KX
  refine List.forall_mem_cons.mpr ⟨?_,λ _ z=>nomatch z⟩
  refine' Ro.JT (x:="by_days") (st:=Ro.top 14) ?a ?l ?c;(case a=>k_is);(case l=>k_is);(case c=>first|k_is|kernel_rfl|rfl)
 case TK=>
  intro w h KX
  refine List.forall_mem_cons.mpr ⟨?_,λ _ z=>nomatch z⟩
  first|k_is|kernel_rfl|rfl
 case F=>
  intro w mg fa h KX G LF
  refine' Ro.Jd KX G LF ?x0 ?x1 ?x2 ?x3 ?x4 ?x5 ?x6 ?x7 ?x8 ?b ?cN ?oV ?oU ?lr ?gO ?dt ?oR ?bu ?fN ?jc ?dC ?bt ?oQ ?jb ?oP ?bw ?fE ?d0 ?d1 ?d2 ?d3 ?d4 ?d5 ?d6 ?d7 ?d8 ?d9 ?MP ?MO ?MN ?MM ?ML ?MK ?MJ ?MI ?MH ?MG ?MF ?ME ?MD ?MC ?MB ?MA ?Mz ?My ?Mx ?Mw ?Mv ?Mu ?Mr ?Mq ?Mp ?Mo ?Mn ?Ml ?Mj ?Mi ?Mh
  (case x0=>(refine' Ro.lY KX G ?a ?l ?n ?s ?k ?g ?h ?j ?cn ?ct ?i;(case a=>k_is);(case l=>k_is);(case n=>k_is);(case s=>first|rfl|decide +kernel);(case k=>k_is);(case g=>k_is);(case h=>k_is);(case j=>k_is);(case cn=>k_is);(case ct=>k_is);(case i=>first|rfl|decide +kernel)))
  (case x1=>(refine' Ro.lY KX G ?a ?l ?n ?s ?k ?g ?h ?j ?cn ?ct ?i;(case a=>k_is);(case l=>k_is);(case n=>k_is);(case s=>first|rfl|decide +kernel);(case k=>k_is);(case g=>k_is);(case h=>k_is);(case j=>k_is);(case cn=>k_is);(case ct=>k_is);(case i=>first|rfl|decide +kernel)))
  (case x2=>(refine' Ro.lY KX G ?a ?l ?n ?s ?k ?g ?h ?j ?cn ?ct ?i;(case a=>k_is);(case l=>k_is);(case n=>k_is);(case s=>first|rfl|decide +kernel);(case k=>k_is);(case g=>k_is);(case h=>k_is);(case j=>k_is);(case cn=>k_is);(case ct=>k_is);(case i=>first|rfl|decide +kernel)))
  (case x3=>(refine' Ro.lY KX G ?a ?l ?n ?s ?k ?g ?h ?j ?cn ?ct ?i;(case a=>k_is);(case l=>k_is);(case n=>k_is);(case s=>first|rfl|decide +kernel);(case k=>k_is);(case g=>k_is);(case h=>k_is);(case j=>k_is);(case cn=>k_is);(case ct=>k_is);(case i=>first|rfl|decide +kernel)))
  (case x4=>(refine' Ro.lY KX G ?a ?l ?n ?s ?k ?g ?h ?j ?cn ?ct ?i;(case a=>k_is);(case l=>k_is);(case n=>k_is);(case s=>first|rfl|decide +kernel);(case k=>k_is);(case g=>k_is);(case h=>k_is);(case j=>k_is);(case cn=>k_is);(case ct=>k_is);(case i=>first|rfl|decide +kernel)))
  (case x5=>(refine' Ro.lY KX G ?a ?l ?n ?s ?k ?g ?h ?j ?cn ?ct ?i;(case a=>k_is);(case l=>k_is);(case n=>k_is);(case s=>first|rfl|decide +kernel);(case k=>k_is);(case g=>k_is);(case h=>k_is);(case j=>k_is);(case cn=>k_is);(case ct=>k_is);(case i=>first|rfl|decide +kernel)))
  (case x6=>(refine' Ro.lY KX G ?a ?l ?n ?s ?k ?g ?h ?j ?cn ?ct ?i;(case a=>k_is);(case l=>k_is);(case n=>k_is);(case s=>first|rfl|decide +kernel);(case k=>k_is);(case g=>k_is);(case h=>k_is);(case j=>k_is);(case cn=>k_is);(case ct=>k_is);(case i=>first|rfl|decide +kernel)))
  (case x7=>(refine' Ro.lY KX G ?a ?l ?n ?s ?k ?g ?h ?j ?cn ?ct ?i;(case a=>k_is);(case l=>k_is);(case n=>k_is);(case s=>first|rfl|decide +kernel);(case k=>k_is);(case g=>k_is);(case h=>k_is);(case j=>k_is);(case cn=>k_is);(case ct=>k_is);(case i=>first|rfl|decide +kernel)))
  (case x8=>(refine' Ro.lY KX G ?a ?l ?n ?s ?k ?g ?h ?j ?cn ?ct ?i;(case a=>k_is);(case l=>k_is);(case n=>k_is);(case s=>first|rfl|decide +kernel);(case k=>k_is);(case g=>k_is);(case h=>k_is);(case j=>k_is);(case cn=>k_is);(case ct=>k_is);(case i=>first|rfl|decide +kernel)))
  (case b=>(refine' Ro.MZ (nm:="Book") ?ba ?bp ?bd ?bo ?bs ?bn;(case ba=>k_is);(case bp=>k_is);(case bd=>k_is);(case bo=>k_is);(case bs=>k_is);(case bn=>exact List.forall_mem_cons.mpr ⟨by k_is,List.forall_mem_cons.mpr ⟨by k_is,List.forall_mem_cons.mpr ⟨by k_is,List.forall_mem_cons.mpr ⟨by k_is,List.forall_mem_cons.mpr ⟨by k_is,List.forall_mem_cons.mpr ⟨by k_is,List.forall_mem_cons.mpr ⟨by k_is,List.forall_mem_cons.mpr ⟨by k_is,Ro.HB⟩⟩⟩⟩⟩⟩⟩⟩)))
  (case cN=>k_is)
  (case oV=>k_is)
  (case oU=>k_is)
  (case lr=>k_is)
  (case gO=>k_is)
  (case dt=>k_is)
  (case oR=>k_is)
  (case bu=>k_is)
  (case fN=>k_is)
  (case jc=>k_is)
  (case dC=>k_is)
  (case bt=>k_is)
  (case oQ=>k_is)
  (case jb=>k_is)
  (case oP=>k_is)
  (case bw=>(refine' Ro.EB (x:="FIRST_HALF_DAYS") (v:=.int 182) KX G ?a ?r ?w;(case a=>k_is);(case r=>exact⟨_,rfl⟩);(case w=>exact λ ρ H=>by unfold Mm.VR;rfl)))
  (case fE=>(refine' Ro.Iy (x:="NOTHING") (vs:=[.int 0,.int 1]) KX G ?a ?l ?v ?s ?w;(case a=>k_is);(case l=>k_is);(case v=>exact .cons ⟨_,rfl⟩ (.cons ⟨_,rfl⟩ (.nil)));(case s=>decide);(case w=>exact λ ρ H=>.cons (by unfold Mm.VR;rfl) (.cons (by unfold Mm.VR;rfl) (.nil)))))
  (case d0=>(refine' Ro.Jf KX G rfl ?a ?l ?c ?k ?h;(case a=>k_is);(case l=>k_is);(case c=>k_is);(case k=>k_is);(case h=>first|k_is|kernel_rfl|rfl)))
  (case d1=>(refine' Ro.Jg KX G rfl ?g ?a ?l ?c ?k ?f ?m ?kc;(case g=>k_is);(case a=>k_is);(case l=>k_is);(case c=>k_is);(case k=>k_is);(case f=>k_is);(case m=>k_is);(case kc=>k_is)))
  (case d2=>(refine' Ro.da rfl ?a ?l ?c ?k ?f;(case a=>k_is);(case l=>k_is);(case c=>k_is);(case k=>k_is);(case f=>k_is)))
  (case d3=>(refine' Ro.da rfl ?a ?l ?c ?k ?f;(case a=>k_is);(case l=>k_is);(case c=>k_is);(case k=>k_is);(case f=>k_is)))
  (case d4=>(refine' Ro.da rfl ?a ?l ?c ?k ?f;(case a=>k_is);(case l=>k_is);(case c=>k_is);(case k=>k_is);(case f=>k_is)))
  (case d5=>(refine' Ro.da rfl ?a ?l ?c ?k ?f;(case a=>k_is);(case l=>k_is);(case c=>k_is);(case k=>k_is);(case f=>k_is)))
  (case d6=>(refine' Ro.da rfl ?a ?l ?c ?k ?f;(case a=>k_is);(case l=>k_is);(case c=>k_is);(case k=>k_is);(case f=>k_is)))
  (case d7=>(refine' Ro.da rfl ?a ?l ?c ?k ?f;(case a=>k_is);(case l=>k_is);(case c=>k_is);(case k=>k_is);(case f=>k_is)))
  (case d8=>(refine' Ro.da rfl ?a ?l ?c ?k ?f;(case a=>k_is);(case l=>k_is);(case c=>k_is);(case k=>k_is);(case f=>k_is)))
  (case d9=>(refine' Ro.da rfl ?a ?l ?c ?k ?f;(case a=>k_is);(case l=>k_is);(case c=>k_is);(case k=>k_is);(case f=>k_is)))
  (case MP=>(refine' Ro.da rfl ?a ?l ?c ?k ?f;(case a=>k_is);(case l=>k_is);(case c=>k_is);(case k=>k_is);(case f=>k_is)))
  (case MO=>(refine' Ro.da rfl ?a ?l ?c ?k ?f;(case a=>k_is);(case l=>k_is);(case c=>k_is);(case k=>k_is);(case f=>k_is)))
  (case MN=>(refine' Ro.da rfl ?a ?l ?c ?k ?f;(case a=>k_is);(case l=>k_is);(case c=>k_is);(case k=>k_is);(case f=>k_is)))
  (case MM=>(refine' Ro.da rfl ?a ?l ?c ?k ?f;(case a=>k_is);(case l=>k_is);(case c=>k_is);(case k=>k_is);(case f=>k_is)))
  (case ML=>(refine' Ro.da rfl ?a ?l ?c ?k ?f;(case a=>k_is);(case l=>k_is);(case c=>k_is);(case k=>k_is);(case f=>k_is)))
  (case MK=>(refine' Ro.da rfl ?a ?l ?c ?k ?f;(case a=>k_is);(case l=>k_is);(case c=>k_is);(case k=>k_is);(case f=>k_is)))
  (case MJ=>(refine' Ro.da rfl ?a ?l ?c ?k ?f;(case a=>k_is);(case l=>k_is);(case c=>k_is);(case k=>k_is);(case f=>k_is)))
  (case MI=>(refine' Ro.da rfl ?a ?l ?c ?k ?f;(case a=>k_is);(case l=>k_is);(case c=>k_is);(case k=>k_is);(case f=>k_is)))
  (case MH=>(refine' Ro.da rfl ?a ?l ?c ?k ?f;(case a=>k_is);(case l=>k_is);(case c=>k_is);(case k=>k_is);(case f=>k_is)))
  (case MG=>(refine' Ro.da rfl ?a ?l ?c ?k ?f;(case a=>k_is);(case l=>k_is);(case c=>k_is);(case k=>k_is);(case f=>k_is)))
  (case MF=>(refine' Ro.dX KX G ?a ?l ?c ?k;(case a=>k_is);(case l=>k_is);(case c=>k_is);(case k=>k_is)))
  (case ME=>(refine' Ro.dX KX G ?a ?l ?c ?k;(case a=>k_is);(case l=>k_is);(case c=>k_is);(case k=>k_is)))
  (case MD=>(refine' Ro.dX KX G ?a ?l ?c ?k;(case a=>k_is);(case l=>k_is);(case c=>k_is);(case k=>k_is)))
  (case MC=>(refine' Ro.dX KX G ?a ?l ?c ?k;(case a=>k_is);(case l=>k_is);(case c=>k_is);(case k=>k_is)))
  (case MB=>(refine' Ro.dX KX G ?a ?l ?c ?k;(case a=>k_is);(case l=>k_is);(case c=>k_is);(case k=>k_is)))
  (case MA=>(refine' Ro.dX KX G ?a ?l ?c ?k;(case a=>k_is);(case l=>k_is);(case c=>k_is);(case k=>k_is)))
  (case Mz=>(refine' Ro.dX KX G ?a ?l ?c ?k;(case a=>k_is);(case l=>k_is);(case c=>k_is);(case k=>k_is)))
  (case My=>(refine' Ro.dX KX G ?a ?l ?c ?k;(case a=>k_is);(case l=>k_is);(case c=>k_is);(case k=>k_is)))
  (case Mx=>(refine' Ro.dX KX G ?a ?l ?c ?k;(case a=>k_is);(case l=>k_is);(case c=>k_is);(case k=>k_is)))
  (case Mw=>(refine' Ro.dX KX G ?a ?l ?c ?k;(case a=>k_is);(case l=>k_is);(case c=>k_is);(case k=>k_is)))
  (case Mv=>(refine' Ro.dX KX G ?a ?l ?c ?k;(case a=>k_is);(case l=>k_is);(case c=>k_is);(case k=>k_is)))
  (case Mu=>(refine' Ro.dX KX G ?a ?l ?c ?k;(case a=>k_is);(case l=>k_is);(case c=>k_is);(case k=>k_is)))
  (case Mr=>(refine' Ro.dX KX G ?a ?l ?c ?k;(case a=>k_is);(case l=>k_is);(case c=>k_is);(case k=>k_is)))
  (case Mq=>(refine' Ro.dX KX G ?a ?l ?c ?k;(case a=>k_is);(case l=>k_is);(case c=>k_is);(case k=>k_is)))
  (case Mp=>(refine' Ro.dX KX G ?a ?l ?c ?k;(case a=>k_is);(case l=>k_is);(case c=>k_is);(case k=>k_is)))
  (case Mo=>(refine' Ro.dX KX G ?a ?l ?c ?k;(case a=>k_is);(case l=>k_is);(case c=>k_is);(case k=>k_is)))
  (case Mn=>(refine' Ro.dX KX G ?a ?l ?c ?k;(case a=>k_is);(case l=>k_is);(case c=>k_is);(case k=>k_is)))
  (case Ml=>(refine' Ro.dX KX G ?a ?l ?c ?k;(case a=>k_is);(case l=>k_is);(case c=>k_is);(case k=>k_is)))
  (case Mj=>(refine' Ro.dX KX G ?a ?l ?c ?k;(case a=>k_is);(case l=>k_is);(case c=>k_is);(case k=>k_is)))
  (case Mi=>(refine' Ro.dX KX G ?a ?l ?c ?k;(case a=>k_is);(case l=>k_is);(case c=>k_is);(case k=>k_is)))
  (case Mh=>(refine' Ro.dX KX G ?a ?l ?c ?k;(case a=>k_is);(case l=>k_is);(case c=>k_is);(case k=>k_is)))
