import PyProof.Rows.All
import Wide.All
import OpenK.AllK
import Wide.FinOn
import Lean
import PyProof.EqAt
import PyProof.EqKinds
import PyProof.TupleCall
import PySem.Challenge.RW_royaltree_k75_statements_bent_in_both
set_option Elab.async false
set_option linter.all false
set_option maxRecDepth 100000
namespace L2
open PySem PySem.Spec PyProof.Rows
abbrev Key:=Sum Int Str
def n8:Key->Value->Bool
 | .inl k,v=>Value.isInt k v
 | .inr x,v=>Value.isStrOf x v
def Ma (w:World):Key->Int
 | .inl k=>hashInt k
 | .inr x=>hashStr w x
theorem bV:∀ {k:Key}{v:Value},n8 k v=true->(∃ i t,k=Sum.inl i/\v=Value.int i t)∨(∃ x t,k=Sum.inr x/\v=Value.str x t)
 | .inl i,v,h=>by
  obtain⟨t,e⟩:=Value.isInt_shape (k:=i) (v:=v) h
  exact .inl ⟨i,t,rfl,e⟩
 | .inr x,v,h=>by
  obtain⟨t,e⟩:=Value.isStrOf_shape (x:=x) (v:=v) h
  exact .inr ⟨x,t,rfl,e⟩
theorem xP (i:Int)(t:Tok):n8 (.inl i) (.int i t)=true:=by simp[n8,Value.isInt]
theorem xO (x:Str)(t:Tok):n8 (.inr x) (.str x t)=true:=by simp[n8,Value.isStrOf]
theorem F8 (a b:Int):decide ((Sum.inl a:Key)=Sum.inl b)=(a == b):=by
 by_cases e:a=b
 ·subst e;simp
 ·have h:¬ (Sum.inl a:Key)=Sum.inl b:=λ q=>e (Sum.inl.inj q)
  rw[decide_eq_false h]
  exact(beq_eq_false_iff_ne.mpr e).symm
theorem FY (a b:Str):decide ((Sum.inr a:Key)=Sum.inr b)=decide (a=b):=by
 by_cases e:a=b
 ·subst e;simp
 ·have h:¬ (Sum.inr a:Key)=Sum.inr b:=λ q=>e (Sum.inr.inj q)
  rw[decide_eq_false h,decide_eq_false e]
theorem F7 (a:Int)(b:Str):decide ((Sum.inl a:Key)=Sum.inr b)=false:=decide_eq_false (λ q=>nomatch q)
theorem FZ (a:Str)(b:Int):decide ((Sum.inr a:Key)=Sum.inl b)=false:=decide_eq_false (λ q=>nomatch q)
def bQ (prog:Program)(w:World):PySem.KeyKind prog w Key where
 is:=n8
 hash:=Ma w
 inj:=λ v a b ha hb=>by
  rcases bV ha with⟨i,t,rfl,rfl⟩|⟨x,t,rfl,rfl⟩
  ·rcases bV hb with⟨j,u,rfl,e⟩|⟨y,u,rfl,e⟩
   ·injection e with e1 _;rw[e1]
   ·exact nomatch e
  ·rcases bV hb with⟨j,u,rfl,e⟩|⟨y,u,rfl,e⟩
   ·exact nomatch e
   ·injection e with e1 _;rw[e1]
 byValue:=λ k v h=>by
  rcases bV h with⟨i,t,rfl,rfl⟩|⟨x,t,rfl,rfl⟩<;>rfl
 pyHash:=λ hv h=>by
  rcases bV hv with⟨i,t,rfl,rfl⟩|⟨x,t,rfl,rfl⟩
  ·exact wpAny_pyHash_int h
  ·exact wpAny_pyHash_str h
 eqBool:=λ hu hv h=>by
  rcases bV hu with⟨i,t,rfl,rfl⟩|⟨x,t,rfl,rfl⟩
  ·rcases bV hv with⟨j,u,rfl,rfl⟩|⟨y,u,rfl,rfl⟩
   ·rw[F8]at h;exact wpAny_eqBool_int h
   ·rw[F7]at h;exact SeqAt.EqAt.int_str i t y u _ _ _ _ h
  ·rcases bV hv with⟨j,u,rfl,rfl⟩|⟨y,u,rfl,rfl⟩
   ·rw[FZ]at h;exact SeqAt.EqAt.str_int x t j u _ _ _ _ h
   ·rw[FY]at h;exact wpAny_eqBool_str h
 «strs»:=λ k x t v h=>by
  rcases bV h with⟨i,u,rfl,e⟩|⟨y,u,rfl,e⟩
  ·exact nomatch e
  ·injection e with e1 _
   subst e1
   cases v<;>rfl
theorem sS (prog:Program)(w:World)(i:Int)(t:Tok):(bQ prog w).is (.inl i) (.int i t)=true:=xP i t
theorem sR (prog:Program)(w:World)(x:Str)(t:Tok):(bQ prog w).is (.inr x) (.str x t)=true:=xO x t
end L2
namespace L2
open PySem PySem.Spec PyProof.Rows
inductive V where
 | aY|bl (b:Bool)|int (i:Int)|str (x:Str)|vn (b:Array UInt8)|DH (b:UInt64)|ref (a:Addr)|ty (n:String)
 deriving DecidableEq
def RelV:V->Value->Prop
 | .aY,u=>u=Value.none
 | .bl b,u=>u=Value.bool b
 | .int i,u=>∃ t,u=Value.int i t
 | .str x,u=>∃ t,u=Value.str x t
 | .vn b,u=>∃ t,u=Value.bytes b t
 | .DH b,u=>∃ t,u=Value.float b t
 | .ref a,u=>u=Value.ref a
 | .ty n,u=>u=Value.type n
abbrev Vals:List V->List Value->Prop:=Paired RelV
theorem Vals.length {xs:List V}{us:List Value}(r:Vals xs us):xs.length=us.length:=Paired.length r
theorem Vals.get:∀ {xs:List V}{us:List Value}{i:Nat}{x:V},Vals xs us->xs[i]? = some x->∃ u,us[i]? = some u/\RelV x u
 | _,_,_,_,.nil,e=>by simp at e
 | _,_,0,_,.cons r _,e=>by simp at e;subst e;exact⟨_,rfl,r⟩
 | _,_,i+1,x,.cons _ t,e=>by
  obtain⟨u,h1,h2⟩:=Vals.get (i:=i) (x:=x) t (by simpa using e)
  exact⟨u,by simpa using h1,h2⟩
theorem Vals.set {x:V}{u:Value}(r:RelV x u):∀ {xs:List V}{us:List Value}(i:Nat),Vals xs us->Vals (xs.set i x) (us.set i u)
 | _,_,_,.nil=>.nil
 | _,_,0,.cons _ t=>.cons r t
 | _,_,i+1,.cons q t=>.cons q (Vals.set r i t)
theorem Vals.append:∀ {xs ys:List V}{us ws:List Value},Vals xs us->Vals ys ws->Vals (xs++ys) (us++ws)
 | _,_,_,_,.nil,s=>s
 | _,_,_,_,.cons r t,s=>.cons r (Vals.append t s)
theorem Vals.take:∀ {xs:List V}{us:List Value}(n:Nat),Vals xs us->Vals (xs.take n) (us.take n)
 | _,_,0,_=>.nil
 | _,_,_+1,.nil=>.nil
 | _,_,n+1,.cons r t=>.cons r (Vals.take n t)
theorem Vals.drop:∀ {xs:List V}{us:List Value}(n:Nat),Vals xs us->Vals (xs.drop n) (us.drop n)
 | _,_,0,r=>r
 | _,_,_+1,.nil=>.nil
 | _,_,n+1,.cons _ t=>Vals.drop n t
def oV:Option V->Option Value->Prop
 | some v,some u=>RelV v u
 | none,none=>True
 | _,_=>False
def KV {κ:Type}:List (κ × V)->List (κ × Value)->Prop:=Paired λ(p:κ × V) (q:κ × Value)=>p.1=q.1/\RelV p.2 q.2
def kV:Key->V
 | .inl i=>.int i
 | .inr x=>.str x
inductive HO where
 | lst (xs:List V)
 | tup (xs:List V)
 | dK (kvs:List (Key × V))|dT (kvs:List (List Key × V))
 | set (S:Int->Bool) (n:Nat)
 | ins (C dx:Addr) (fs:List (Str × V))
 | own (x:Addr)
 | xd (fs:List (Str × V))
 | met (f x:Addr)
 | Kk (lo hi:Int)
 | qc (o:Obj) (u:HO)
 | Bb (ps:Array Value)
 | ext (φ:Heap->Prop)
abbrev Hp:=Addr->Option HO
def upd (H:Hp)(a:Addr)(o:HO):Hp:=λ b=>if b=a then some o else H b
theorem aQ {H:Hp}{a:Addr}{o:HO}:upd H a o a=some o:=by unfold upd;rw[if_pos rfl]
theorem aD {H:Hp}{a b:Addr}{o:HO}(h:b≠a):upd H a o b=H b:=by unfold upd;rw[if_neg h]
theorem nR {H:Hp}{a b:Addr}{o u:HO}(h:H a=some o)(h':H b=some u)(d:o≠u):a≠b:=by
 intro e;subst e;rw[h]at h';exact d (Option.some.inj h')
theorem bq {H:Hp}{a b:Addr}{o:HO}(h:H a=some o)(h':H b=none):a≠b:=by
 intro e;subst e;rw[h]at h';cases h'
section
variable (P:Program)(w:World)
def b8 (H:Hp)(h:Heap)(a:Addr):HO->Prop
 | .lst xs=>xs.length<=sizeLine/\∃ (its:List Value) (n:Nat),Vals xs its/\h.get? a=some { cls:=.type "list",data:=.seq its.toArray n }
 | .tup xs=>xs.length<=sizeLine/\∃ its:List Value,Vals xs its/\IsTup h a its.toArray
 | .dK kvs=>kvs.length<=sizeLine/\(a == sysModules)=false/\∃ vs,KV kvs vs/\h.DictOf (bQ P w) a vs
 | .dT kvs=>kvs.length<=sizeLine/\(a == sysModules)=false/\∃ xs:List (List Key × Addr × Value),
   Paired (λ(p:List Key × V) (q:List Key × Addr × Value)=>p.1=q.1/\H q.2.1=some (.tup (p.1.map kV))/\RelV p.2 q.2.2) kvs xs/\
   ∃ o es ep,h.get? a=some o/\o.ExactDict/\o.data=.dict es ep/\es.toList=xs.map (entryOfKey (tupleKind (bQ P w)))/\(xs.map (·.1)).Nodup
 | .set S n=>h.SetOf (intKind P w) a S n
 | .ins C dx fs=>H dx=some (.own a)/\fs.length<=1000/\dx≠a/\h.get? a=some (PySem.W.instObj C dx)/\
   ∃ mA,h.Ns1 dx mA/\(∀ f,oV (fs.lookup f) (mA f))/\PySem.Within mA (fs.map (·.1))
 | .own _=>∃ o,h.get? a=some o
 | .xd fs=>∃ mA,h.Ns1 a mA/\∀ f,oV (fs.lookup f) (mA f)
 | .Kk lo hi=>∃ t u v,h.get? a=some { cls:=.type "range",data:=.fields #[.int lo t,.int hi u,.int 1 v] }
 | .qc o u=>h.get? a=some o/\b8 H h a u
 | .Bb ps=>h.get? a=some { cls:=.none,data:=.fields ps }
 | .met f x=>h.get? a=some (PySem.W.methodObj (.ref f) (.ref x))
 | .ext φ=>φ h/\(∃ o,h.get? a=some o)/\∀ h1 h2:Heap,φ h1->(∀ o,h1.get? a=some o->h2.get? a=some o)->φ h2
def j7 (H:Hp)(h:Heap):Prop:=∀ a o,H a=some o->b8 P w H h a o
end
section
variable {P:Program}{w:World}{H H':Hp}{h h':Heap}{a:Addr}{o:HO}
theorem b8.lt (x:b8 P w H h a o):a < h.objs.size:=by
 cases o with
 | lst xs=>obtain⟨_,_,_,_,e⟩:=x;exact Heap.lt_size e
 | tup xs=>obtain⟨_,_,_,p⟩:=x;exact p.lt
 | dK kvs=>obtain⟨_,_,_,_,o,_,_,e,_⟩:=x;exact Heap.lt_size e
 | dT kvs=>obtain⟨_,_,_,_,o,_,_,e,_⟩:=x;exact Heap.lt_size e
 | set S n=>obtain⟨o,_,_,_,e,_⟩:=x;exact Heap.lt_size e
 | ins C dx fs=>obtain⟨_,_,_,e,_⟩:=x;exact Heap.lt_size e
 | own y=>obtain⟨_,e⟩:=x;exact Heap.lt_size e
 | xd fs=>obtain⟨_,⟨_,_,_,e,_⟩,_⟩:=x;exact Heap.lt_size e
 | Kk lo hi=>obtain⟨_,_,_,e⟩:=x;exact Heap.lt_size e
 | qc ob u=>obtain⟨e,_⟩:=x;exact Heap.lt_size e
 | Bb ps=>exact Heap.lt_size (show h.get? a=some _ from x)
 | met f y=>exact Heap.lt_size (show h.get? a=some _ from x)
 | ext φ=>obtain⟨_,⟨_,e⟩,_⟩:=x;exact Heap.lt_size e
theorem Paired.FL {α β:Type}{F G:α->β->Prop}:∀ {l₁:List α}{l₂:List β},Paired F l₁ l₂->(∀ a b,F a b->G a b)->Paired G l₁ l₂
 | _,_,.nil,_=>.nil
 | _,_,.cons r t,f=>.cons (f _ _ r) (Paired.FL t f)
theorem b8.sv (x:b8 P w H h a o)(k:∀ b u,(b=a∨H b=some (.own a))->h.get? b=some u->h'.get? b=some u)
  (ho:∀ b,H b=some (.own a)->H' b=some (.own a)) (ht:∀ b xs,H b=some (.tup xs)->H' b=some (.tup xs)):b8 P w H' h' a o:=by
 induction o with
 | lst xs=>obtain⟨z,its,n,r,e⟩:=x;exact⟨z,its,n,r,k _ _ (.inl rfl) e⟩
 | tup xs=>obtain⟨z,its,r,ob,e,c⟩:=x;exact⟨z,its,r,ob,k _ _ (.inl rfl) e,c⟩
 | dK kvs=>obtain⟨z,y,vs,r,ob,es,ep,e,c⟩:=x;exact⟨z,y,vs,r,ob,es,ep,k _ _ (.inl rfl) e,c⟩
 | dT kvs=>
  obtain⟨z,y,xs,r,ob,es,ep,e,c⟩:=x
  exact⟨z,y,xs,Paired.FL r λ p q z=>⟨z.1,ht _ _ z.2.1,z.2.2⟩,ob,es,ep,k _ _ (.inl rfl) e,c⟩
 | set S n=>obtain⟨ob,es,ep,t,e,c⟩:=x;exact⟨ob,es,ep,t,k _ _ (.inl rfl) e,c⟩
 | ins C dx fs=>
  obtain⟨d,z,ne,e,mA,⟨od,es,ep,e2,c⟩,r⟩:=x
  exact⟨ho _ d,z,ne,k _ _ (.inl rfl) e,mA,⟨od,es,ep,k _ _ (.inr d) e2,c⟩,r⟩
 | own y=>obtain⟨ob,e⟩:=x;exact⟨ob,k _ _ (.inl rfl) e⟩
 | xd fs=>obtain⟨mA,⟨od,es,ep,e,c⟩,r⟩:=x;exact⟨mA,⟨od,es,ep,k _ _ (.inl rfl) e,c⟩,r⟩
 | Kk lo hi=>obtain⟨t,u,v,e⟩:=x;exact⟨t,u,v,k _ _ (.inl rfl) e⟩
 | qc ob u ih=>obtain⟨e,q⟩:=x;exact⟨k _ _ (.inl rfl) e,ih q⟩
 | Bb ps=>
  have e:h.get? a=some { cls:=.none,data:=.fields ps }:=x
  show h'.get? a=some { cls:=.none,data:=.fields ps }
  exact k a _ (.inl rfl) e
 | met f y=>
  have e:h.get? a=some (PySem.W.methodObj (.ref f) (.ref y)):=x
  show h'.get? a=some (PySem.W.methodObj (.ref f) (.ref y))
  exact k a _ (.inl rfl) e
 | ext φ=>obtain⟨p,⟨o,e⟩,st⟩:=x;exact⟨st _ _ p λ o q=>k _ _ (.inl rfl) q,⟨o,k _ _ (.inl rfl) e⟩,st⟩
theorem j7.lt (x:j7 P w H h)(e:H a=some o):a < h.objs.size:=(x a o e).lt
theorem j7.fresh (x:j7 P w H h)(e:h.objs.size<=a):H a=none:=by
 cases q:H a with
 | none=>rfl
 | some u=>exact absurd (Nat.lt_of_lt_of_le (x.lt q) e) (Nat.lt_irrefl _)
theorem j7.kept (x:j7 P w H h)(k:∀ b u,h.get? b=some u->h'.get? b=some u):j7 P w H h':=λ a o e=>
 (x a o e).sv (λ b u _ q=>k b u q) (λ _ q=>q) λ _ _ q=>q
theorem j7.laid (x:j7 P w H h)(k:∀ b u,h.get? b=some u->h'.get? b=some u)(hp:h.objs.size<=a)(new:b8 P w (upd H a o) h' a o):j7 P w (upd H a o) h':=λ b u e=>by
 have hn:=x.fresh hp
 by_cases hb:b=a
 ·subst hb;rw[aQ]at e;cases e;exact new
 ·rw[aD hb]at e
  exact(x b u e).sv (λ c v _ q=>k c v q) (λ c q=>by rw[aD (bq q hn)];exact q) λ c xs q=>by rw[aD (bq q hn)];exact q
end
def Rd (H:Hp)(a:Addr)(u:HO):Prop:=H a=some u∨∃ o,H a=some (.qc o u)
theorem Rd.ok {P:Program}{w:World}{H:Hp}{h:Heap}{a:Addr}{u:HO}(r:Rd H a u)(x:j7 P w H h):b8 P w H h a u:=by
 rcases r with r|⟨o,r⟩
 ·exact x a u r
 ·obtain⟨_,q⟩:=x a _ r
  exact q
def Kb:Option HO->Prop
 | some (.lst _)=>True
 | some (.dK _)=>True
 | some (.dT _)=>True
 | some (.set _ _)=>True
 | some (.ins _ _ _)=>True
 | some (.ext _)=>True
 | _=>False
section
variable {P:Program}{w:World}{H:Hp}{h h':Heap}{x e:Addr}{o':HO}
theorem j7.write (ok:j7 P w H h)(mu:Kb (H x)) (he:e=x∨H e=some (.own x)) (k:∀ b u,b≠e->h.get? b=some u->h'.get? b=some u)(Ht:∃ u,h'.get? e=some u)
  (new:b8 P w (upd H x o') h' x o'):j7 P w (upd H x o') h':=λ b u q=>by
 have II:∀ c y,H c=some (.own y)->c≠x:=λ c y r z=>by subst z;rw[r]at mu;exact mu
 have LS:∀ c xs,H c=some (.tup xs)->c≠x:=λ c xs r z=>by subst z;rw[r]at mu;exact mu
 by_cases hb:b=x
 ·subst hb;rw[aQ]at q;cases q;exact new
 ·rw[aD hb]at q
  by_cases GA:b=e
  ·have q':H b=some (.own x):=by
    rcases he with z|z
    ·exact absurd (GA.trans z) hb
    ·rw[GA];exact z
   rw[q]at q';cases q'
   obtain⟨v,hv⟩:=Ht
   exact⟨v,by rw[GA];exact hv⟩
  ·refine(ok b u q).sv (λ c v hc r=>k c v ?_ r) (λ c r=>by rw[aD (II c b r)];exact r) λ c xs r=>by rw[aD (LS c xs r)];exact r
   rcases hc with rfl|hc
   ·exact GA
   ·rintro rfl
    rcases he with z|z
    ·exact II c b hc z
    ·rw[hc]at z;cases z;exact hb rfl
end
structure Un (fs ex:List Addr)(H H':Hp)(h h':Heap):Prop where
 keep:∀ b o,h.get? b=some o->H b=none->b∉fs->b∉ex->h'.get? b=some o
 slot:∀ b o,h.get? b=some o->H b=none->b∈fs->b∉ex->∃ sl,h'.get? b=some { o with slots:=sl }
 free:∀ b o,h.get? b=some o->H b=none->b∉ex->H' b=none
 there:∀ b o,h.get? b=some o->b∉ex->∃ o',h'.get? b=some o'
 ju:∀ b xs,H b=some (.tup xs)->H' b=some (.tup xs)
 iz:∀ b o u,H b=some (.qc o u)->H' b=some (.qc o u)
 si:∀ b ps,H b=some (.Bb ps)->∃ more,H' b=some (.Bb (ps++more))
section
variable {fs QV ex RV:List Addr}{H H1 H2:Hp}{h h1 h2 h':Heap}{a x e:Addr}{o:HO}
theorem Un.any (u:Un fs ex H H1 h h1){b:Addr}{ob:Obj}(q:h.get? b=some ob)(n:H b=none)(hx:b∉ex):∃ sl,h1.get? b=some { ob with slots:=sl }:=by
 by_cases hb:b∈fs
 ·exact u.slot b ob q n hb hx
 ·exact⟨ob.slots,u.keep b ob q n hb hx⟩
theorem Un.kept (k:∀ b u,h.get? b=some u->h'.get? b=some u):Un fs ex H H h h':=
 ⟨λ b ob q _ _ _=>k b ob q,λ b ob q _ _ _=>⟨ob.slots,k b ob q⟩,λ _ _ _ n _=>n,λ b ob q _=>⟨ob,k b ob q⟩,λ _ _ q=>q,λ _ _ _ q=>q,λ _ ps q=>⟨#[],by rw[q];simp⟩⟩
theorem Un.refl:Un fs ex H H h h:=Un.kept λ _ _ q=>q
theorem Un.laid (k:∀ b u,h.get? b=some u->h'.get? b=some u)(hp:h.objs.size<=a)(hn:H a=none):Un fs ex H (upd H a o) h h' where
 keep:=λ b u q _ _ _=>k b u q
 slot:=λ b u q _ _ _=>⟨u.slots,k b u q⟩
 free:=λ b u q n _=>by rw[aD (Nat.ne_of_lt (Nat.lt_of_lt_of_le (Heap.lt_size q) hp))];exact n
 there:=λ b u q _=>⟨u,k b u q⟩
 ju:=λ b xs q=>by rw[aD (bq q hn)];exact q
 iz:=λ b u xs q=>by rw[aD (bq q hn)];exact q
 si:=λ b ps q=>⟨#[],by rw[aD (bq q hn),q];simp⟩
theorem Un.write (mu:Kb (H x)) (he:e=x∨H e=some (.own x)) (k:∀ b u,b≠e->h.get? b=some u->h'.get? b=some u)(Ht:∃ u,h'.get? e=some u):Un fs ex H (upd H x o) h h':=by
 have hx:∀ b,H b=none->b≠x:=λ b n z=>by subst z;rw[n]at mu;exact mu
 have hb:∀ b,H b=none->b≠e:=λ b n z=>by
  subst z
  rcases he with r|r
  ·exact hx b n r
  ·rw[n]at r;cases r
 have hm:∀ b u,H b=some u->¬ Kb (some u)->b≠x:=λ b u q nm z=>by subst z;rw[q]at mu;exact nm mu
 refine⟨λ b u q n _ _=>k b u (hb b n) q,λ b u q n _ _=>⟨u.slots,k b u (hb b n) q⟩,λ b u q n _=>by rw[aD (hx b n)];exact n,λ b u q _=>?_,
  λ b xs q=>by rw[aD (hm b _ q λ z=>z)];exact q,λ b u xs q=>by rw[aD (hm b _ q λ z=>z)];exact q,λ b ps q=>⟨#[],by rw[aD (hm b _ q λ z=>z),q];simp⟩⟩
 by_cases GA:b=e
 ·subst GA;exact Ht
 ·exact⟨u,k b u GA q⟩
end
def Kg (h:Heap)(H:Hp):List Addr:=(List.range h.objs.size).filter λ a=>(H a).isSome
def qZ (h:Heap)(H:Hp):Heap:=PySem.W.hideAll h (Kg h H)
theorem xU (h:Heap)(H:Hp):(qZ h H).objs.size=h.objs.size:=PySem.W.hideAll_size _ _
theorem Ai {h:Heap}{H:Hp}{b:Addr}{o:Obj}(e:h.get? b=some o)(n:H b=none):(qZ h H).get? b=some o:=
 PySem.W.hideAll_get _ e λ hm=>by
  have q:(H b).isSome=true:=(List.mem_filter.mp hm).2
  rw[n]at q;simp at q
theorem B5 {h:Heap}{H:Hp}{b:Addr}{o:Obj}(e:(qZ h H).get? b=some o):h.get? b=some o/\H b=none:=by
 have e':h.get? b=some o:=PySem.W.of_hideAll (Kg h H) e
 refine⟨e',?_⟩
 cases q:H b with
 | none=>rfl
 | some x=>
  have hm:b∈Kg h H:=List.mem_filter.mpr ⟨List.mem_range.mpr (Heap.lt_size e'),by simp[q]⟩
  have z:(qZ h H).get? b=none:=PySem.W.hideAll_none (Kg h H) hm
  rw[z]at e;cases e
end L2
namespace L2
open PySem PySem.Spec PyProof.Rows
structure Mod (K:PySem.W.Frag)(mg:Str->Option Value)(base:Heap):Prop where
 Je:K.In base
 glob:base.Ns mainGlobals mg
 blt:∃ mb,base.Ns builtinsNs mb/\∀ x:Str,x≠"__name__"->mb x=bootBuiltins x
 nolimit:base.NoLimit
 NV:base.NoDigits
 bmain:∃ bm ob,mg "__builtins__"=some (.ref bm)/\bm≠builtinsNs/\base.get? bm=some ob/\ob.cls=.type "module"/\ob.dict=some builtinsNs/\ob.data=.plain
structure Cx where
 prog:Program
 w:World
 K:PySem.W.Frag
 mg:Str->Option Value
 base:Heap
 A:Around
 N:List Str
 fY:Shared
 vt:Hp
 env:Env
 outer:List Env
 stack:List Env
 ex:List Addr
 fn:Str->Bool
 calm:Bool
 pn:List (Addr × Obj)
 xe:Value->Shared->Prop
def yq (l:List Env):List Addr:=l.filterMap (·.frame)
abbrev Cx.fs (X:Cx):List Addr:=yq X.outer
def Nz (sc:Scope)(x:Str):Prop:=sc.names.lookup x=some .local∨sc.names.lookup x=some .cell∨sc.names.lookup x=some .free
def Loc (sc:Scope)(x:Str):Prop:=sc.names.lookup x=some .local∨sc.names.lookup x=some .cell
def Look (env:Env)(h:Heap)(m:Str->Option Value)(x:Str)(u:Value):Prop:=
 (env.kindOf x=some .local/\m x=some u)∨((env.kindOf x=some .cell∨env.kindOf x=some .free)/\∃ c,env.cells.lookup x=some c/\h.IsCell c (some u))
structure Cx.Ok (X:Cx):Prop where
 mod:Mod X.K X.mg X.base
 kind:X.env.scope.kind=.function
 glob:X.env.globals=mainGlobals
 blt:X.env.builtins=builtinsNs
 above:X.fY.heap.objs.size<=X.env.locals
 inj:∀ x y c,X.env.cells.lookup x=some c->X.env.cells.lookup y=some c->x=y
 has:∀ x,(X.env.kindOf x=some .cell∨X.env.kindOf x=some .free)->∃ c,X.env.cells.lookup x=some c
 Hx:∀ x c,X.fn x=true->X.env.cells.lookup x=some c->X.fY.heap.objs.size<=c
 hd:X.calm=true->X.A.handled=none
 frames:X.A.frames=some X.stack
 HQ:X.stack=X.outer∨(X.stack=X.env :: X.outer/\X.env.frame=some X.env.locals)
 M0:∀ b∈X.ex,b≠X.env.locals/\∀ x c,X.env.cells.lookup x=some c->c≠b
 bs:∀ b o,X.base.get? b=some o->X.fY.heap.get? b=some o/\X.vt b=none
 C2:X.base.objs.size<=X.fY.heap.objs.size
 xH:∀ b o,X.base.get? b=some o->b∉X.ex
 yb:∀ b∈X.ex,b∉X.fs
 mH:X.fY.heap.FunFrames X.base X.outer
 GF:∀ b∈X.fs,X.vt b=none
structure Inv (X:Cx)(pins:List (Addr × Obj)) (σ:List (Option V)) (H:Hp)(s:Shared):Prop where
 ok:X.Ok
 os:s.os=X.fY.os
 bare:AllBare s.gens
 base:Un X.fs X.ex X.vt H X.fY.heap s.heap
 loc:∃ m,s.heap.Ns X.env.locals m/\∀ (i:Nat) (x:Str) (v:V),X.N[i]? = some x->σ[i]? = some (some v)->Nz X.env.scope x->∃ u,RelV v u/\Look X.env s.heap m x u
 cell:∀ x c,X.env.cells.lookup x=some c->∃ v,s.heap.IsCell c v
 free:H X.env.locals=none
 iI:∀ x c,X.env.cells.lookup x=some c->H c=none
 pin:∀ p∈X.pn++pins,s.heap.get? p.1=some p.2/\H p.1=none/\p.1≠X.env.locals/\p.1∉X.fs/\∀ v,p.2.data≠.cell v
 bN:j7 X.prog X.w H s.heap
 len:σ.length=X.N.length
section
variable {X:Cx}{pins:List (Addr × Obj)}{σ:List (Option V)}{H H':Hp}{s:Shared}{h':Heap}
theorem Cx.Ok.LV (ok:X.Ok){b:Addr}{o:Obj}(e:X.base.get? b=some o):b∉X.fs:=λ hb=>by
 have:=(ok.mH.mem hb).1
 rw[e]at this;cases this
theorem Inv.bs (I:Inv X pins σ H s):∀ b o,X.base.get? b=some o->s.heap.get? b=some o/\H b=none:=λ b o e=>
 ⟨I.base.keep b o (I.ok.bs b o e).1 (I.ok.bs b o e).2 (I.ok.LV e) (I.ok.xH b o e),I.base.free b o (I.ok.bs b o e).1 (I.ok.bs b o e).2 (I.ok.xH b o e)⟩
theorem Inv.bk (I:Inv X pins σ H s):∀ b o,X.base.get? b=some o->s.heap.get? b=some o:=λ b o e=>(I.bs b o e).1
theorem Inv.mod (I:Inv X pins σ H s):Mod X.K X.mg X.base:=I.ok.mod
theorem Inv.lQ (I:Inv X pins σ H s):X.K.In s.heap:=I.ok.mod.Je.keeps I.bk
theorem Inv.lt (I:Inv X pins σ H s):X.env.locals < s.heap.objs.size:=let ⟨_,hn,_⟩:=I.loc;hn.lt
theorem Inv.sz (I:Inv X pins σ H s):X.fY.heap.objs.size<=s.heap.objs.size:=Nat.le_trans I.ok.above (Nat.le_of_lt I.lt)
theorem Inv.LU (I:Inv X pins σ H s){a:Addr}(h:s.heap.objs.size<=a):a∉X.fs:=λ hb=>by
 obtain⟨_,o,ho,_⟩:=I.ok.mH.mem hb
 exact absurd (Nat.lt_of_lt_of_le (Heap.lt_size ho) (Nat.le_trans I.sz h)) (Nat.lt_irrefl _)
theorem Inv.GZ (I:Inv X pins σ H s):∀ x c,X.env.cells.lookup x=some c->c≠X.env.locals:=λ x c e z=>by
 obtain⟨v,o,ho,hd⟩:=I.cell x c e
 obtain⟨m,⟨o',es,ep,cz,Hv,_⟩,_⟩:=I.loc
 rw[z,cz]at ho;cases ho;rw[Hv]at hd;cases hd
theorem Inv.mH (I:Inv X pins σ H s):s.heap.FunFrames X.base X.outer:=by
 have all:∀ (l:List Env),(∀ b∈yq l,b∈X.fs)->X.fY.heap.FunFrames X.base l->s.heap.FunFrames X.base l:=by
  intro l
  induction l with
  | nil=>intro _ _;trivial
  | cons env r ih=>
   intro hs hl
   obtain⟨hk,⟨L,o,hf,hn,ho,hd⟩,hr⟩:=hl
   have hL:L∈X.fs:=hs L (by unfold yq;rw[List.filterMap_cons,hf];exact List.mem_cons_self)
   obtain⟨sl,e⟩:=I.base.slot L o ho (I.ok.GF L hL) hL λ z=>I.ok.yb L z hL
   exact⟨hk,⟨L,_,hf,hn,e,hd⟩,ih (λ b hb=>hs b (by unfold yq;rw[List.filterMap_cons,hf];exact List.mem_cons_of_mem _ hb)) hr⟩
 exact all X.outer (λ _ hb=>hb) I.ok.mH
theorem Inv.stack (I:Inv X pins σ H s):s.heap.FunFrames X.base X.stack:=by
 rcases I.ok.HQ with e|⟨e,hf⟩
 ·rw[e];exact I.mH
 ·rw[e]
  obtain⟨m,hn,_⟩:=I.loc
  refine .cons (by rw[I.ok.kind];decide) hf hn ?_ I.mH
  exact Heap.get?_none_of_le (Nat.le_trans I.ok.C2 I.ok.above)
theorem Inv.uG (I:Inv X pins σ H s):∀ b∈yq X.stack,b∈X.env.locals :: X.fs:=λ b hb=>by
 rcases I.ok.HQ with e|⟨e,hf⟩
 ·rw[e]at hb;exact List.mem_cons_of_mem _ hb
 ·rw[e]at hb
  unfold yq at hb
  rw[List.filterMap_cons,hf]at hb
  exact hb
theorem Inv.vD (I:Inv X pins σ H s):∀ b∈yq X.stack,H b=none:=λ b hb=>by
 rcases List.mem_cons.mp (I.uG b hb) with e|hb
 ·rw[e];exact I.free
 ·obtain⟨_,o,ho,_⟩:=I.ok.mH.mem hb
  exact I.base.free b o ho (I.ok.GF b hb) λ z=>I.ok.yb b z hb
theorem Inv.step {g':Array GenState}{t':Nat}{d':Drawn}{ch:List Addr}(I:Inv X pins σ H s)
  (A2:∀ b∈ch,(b∈X.ex∨X.fY.heap.objs.size<=b)/\b≠X.env.locals/\(∀ x c,X.env.cells.lookup x=some c->c≠b)/\∀ p∈X.pn++pins,p.1≠b)
  (keep:∀ b o,b≠X.env.locals->b∉X.fs->b∉ch->s.heap.get? b=some o->H b=none->h'.get? b=some o)
  (slot:∀ b o,b≠X.env.locals->b∈X.fs->b∉ch->s.heap.get? b=some o->H b=none->∃ sl,h'.get? b=some { o with slots:=sl }) (free:∀ b o,b∉ch->s.heap.get? b=some o->H b=none->H' b=none)
  (there:∀ b o,b∉ch->s.heap.get? b=some o->∃ o',h'.get? b=some o')
  (ju:∀ b xs,H b=some (.tup xs)->H' b=some (.tup xs)) (iz:∀ b o u,H b=some (.qc o u)->H' b=some (.qc o u)) (si:∀ b ps,H b=some (.Bb ps)->∃ more,H' b=some (.Bb (ps++more)))
  (ns:∀ m,s.heap.Ns X.env.locals m->h'.Ns X.env.locals m) (bN:j7 X.prog X.w H' h') (hg:AllBare g') :
  Inv X pins σ H' { s with heap:=h',gens:=g',drawn:=d',toks:=t' }:=by
 have neL:∀ b o,X.fY.heap.get? b=some o->b≠X.env.locals:=λ b o e=>Nat.ne_of_lt (Nat.lt_of_lt_of_le (Heap.lt_size e) I.ok.above)
 have neC:∀ b o,X.fY.heap.get? b=some o->b∉X.ex->b∉ch:=λ b o e hx hb=>by
  rcases(A2 b hb).1 with z|z
  ·exact hx z
  ·exact absurd (Nat.lt_of_lt_of_le (Heap.lt_size e) z) (Nat.lt_irrefl _)
 have cellK:∀ x c,X.env.cells.lookup x=some c->∀ v,s.heap.IsCell c v->h'.IsCell c v:=λ x c e v ⟨o,ho,hd⟩=>by
  have IL:c∉ch:=λ z=>(A2 c z).2.2.1 x c e rfl
  by_cases hc:c∈X.fs
  ·obtain⟨sl,q⟩:=slot c o (I.GZ x c e) hc IL ho (I.iI x c e)
   exact⟨_,q,hd⟩
  ·exact⟨o,keep c o (I.GZ x c e) hc IL ho (I.iI x c e),hd⟩
 refine⟨I.ok,I.os,hg,⟨λ b o e n hb hx=>?_,λ b o e n hb hx=>?_,λ b o e n hx=>?_,λ b o e hx=>?_,λ b xs e=>ju b xs (I.base.ju b xs e),λ b o xs e=>iz b o xs (I.base.iz b o xs e),λ b ps e=>?_⟩,?_,λ x c e=>?_,?_,λ x c e=>?_,λ p hp=>?_,bN,I.len⟩
 ·exact keep b o (neL b o e) hb (neC b o e hx) (I.base.keep b o e n hb hx) (I.base.free b o e n hx)
 ·obtain⟨sl,e1⟩:=I.base.slot b o e n hb hx
  obtain⟨Pd,e2⟩:=slot b _ (neL b o e) hb (neC b o e hx) e1 (I.base.free b o e n hx)
  exact⟨Pd,e2⟩
 ·obtain⟨o',e1⟩:=I.base.there b o e hx
  exact free b o' (neC b o e hx) e1 (I.base.free b o e n hx)
 ·obtain⟨o',e1⟩:=I.base.there b o e hx
  exact there b o' (neC b o e hx) e1
 ·obtain⟨m1,e1⟩:=I.base.si b ps e
  obtain⟨m2,e2⟩:=si b _ e1
  exact⟨m1++m2,by rw[e2,Array.append_assoc]⟩
 ·obtain⟨m,hn,hl⟩:=I.loc
  refine⟨m,ns m hn,λ i x v e1 e2 e3=>?_⟩
  obtain⟨u,r,l⟩:=hl i x v e1 e2 e3
  refine⟨u,r,?_⟩
  rcases l with l|⟨k,c,e,z⟩
  ·exact .inl l
  ·exact .inr ⟨k,c,e,cellK x c e _ z⟩
 ·obtain⟨v,z⟩:=I.cell x c e
  exact⟨v,cellK x c e v z⟩
 ·obtain⟨m,⟨o,_,_,ho,_⟩,_⟩:=I.loc
  exact free _ o (λ z=>(A2 _ z).2.1 rfl) ho I.free
 ·obtain⟨v,o,ho,hd⟩:=I.cell x c e
  exact free c o (λ z=>(A2 c z).2.2.1 x c e rfl) ho (I.iI x c e)
 ·obtain⟨e,n,ne,nf,d⟩:=I.pin p hp
  have IL:p.1∉ch:=λ z=>(A2 p.1 z).2.2.2 p hp rfl
  exact⟨keep p.1 p.2 ne nf IL e n,free p.1 p.2 IL e n,ne,nf,d⟩
theorem Inv.un {t':Nat}(I:Inv X pins σ H s)(u:Un X.fs [] H H' s.heap h')(bN:j7 X.prog X.w H' h'):Inv X pins σ H' { s with heap:=h',toks:=t' }:=by
 obtain⟨m,⟨o,es,ep,ho,r⟩,_⟩:=id I.loc
 obtain⟨sl,hL⟩:=u.any ho I.free (by simp)
 exact I.step (g':=s.gens) (d':=s.drawn) (ch:=[]) (λ _ z=>nomatch z) (λ b o _ hb _ e n=>u.keep b o e n hb (by simp)) (λ b o _ hb _ e n=>u.slot b o e n hb (by simp)) (λ b o _ e n=>u.free b o e n (by simp)) (λ b o _ e=>u.there b o e (by simp)) u.ju u.iz u.si (λ m' hm=>by
  obtain⟨o',es',M1,cz,r'⟩:=hm
  rw[ho]at cz;cases cz
  exact⟨_,es',M1,hL,r'⟩) bN I.bare
theorem Inv.call {g':Array GenState}{t':Nat}{d':Drawn}{ch:List Addr}(I:Inv X pins σ H s)(u:Un (yq X.stack) ch H H' s.heap h') (bN:j7 X.prog X.w H' h')(hg:AllBare g')
  (A2:∀ b∈ch,(b∈X.ex∨X.fY.heap.objs.size<=b)/\b≠X.env.locals/\(∀ x c,X.env.cells.lookup x=some c->c≠b)/\∀ p∈X.pn++pins,p.1≠b) :
  Inv X pins σ H' { s with heap:=h',gens:=g',drawn:=d',toks:=t' }:=by
 obtain⟨m,⟨o,es,ep,ho,r⟩,_⟩:=id I.loc
 obtain⟨sl,hL⟩:=u.any ho I.free λ z=>(A2 _ z).2.1 rfl
 exact I.step (ch:=ch) A2 (λ b o hL hb hc e n=>u.keep b o e n (λ z=>(List.mem_cons.mp (I.uG b z)).elim hL hb) hc) (λ b o _ _ hc e n=>u.any e n hc) (λ b o hc e n=>u.free b o e n hc) (λ b o hc e=>u.there b o e hc) u.ju u.iz u.si (λ m' hm=>by
  obtain⟨o',es',M1,cz,r'⟩:=hm
  rw[ho]at cz;cases cz
  exact⟨_,es',M1,hL,r'⟩) bN hg
theorem Inv.turned {t':Nat}{it:Addr}(I:Inv X pins σ H s)(k:∀ b o,b≠it->s.heap.get? b=some o->h'.get? b=some o)(hn:H it=none)(hL:it≠X.env.locals)
  (h1:it∈X.ex∨X.fY.heap.objs.size<=it) (h2:∀ x c,X.env.cells.lookup x=some c->c≠it) (h3:∀ p∈X.pn++pins,p.1≠it):Inv X pins σ H { s with heap:=h',toks:=t' }:=by
 have NW:∀ b u,H b=some u->b≠it:=λ b u e z=>by rw[z,hn]at e;cases e
 refine I.step (g':=s.gens) (d':=s.drawn) (ch:=[it]) (λ b hb=>?_) (λ b o _ _ hc e _=>k b o (λ z=>hc (by simp[z])) e) (λ b o _ _ hc e _=>⟨o.slots,k b o (λ z=>hc (by simp[z])) e⟩) (λ _ _ _ _ n=>n)
  (λ b o hc e=>⟨o,k b o (λ z=>hc (by simp[z])) e⟩) (λ _ _ e=>e) (λ _ _ _ e=>e) (λ b ps e=>⟨#[],by rw[e];simp⟩) (λ m hm=>?_) (λ b u e=>?_) I.bare
 ·have e:b=it:=by simpa using hb
  subst e
  exact⟨h1,hL,h2,h3⟩
 ·obtain⟨o,es,ep,ho,r⟩:=hm
  exact⟨o,es,ep,k _ o (Ne.symm hL) ho,r⟩
 ·refine(I.bN b u e).sv (λ c v hc q=>k c v ?_ q) (λ _ q=>q) λ _ _ q=>q
  rcases hc with z|z
  ·rw[z];exact NW b u e
  ·exact NW c _ z
theorem Inv.tok (I:Inv X pins σ H s)(t:Nat):Inv X pins σ H { s with toks:=t }:=I.un (h':=s.heap) (t':=t) Un.refl I.bN
theorem Inv.kept {t':Nat}(I:Inv X pins σ H s)(k:∀ b u,s.heap.get? b=some u->h'.get? b=some u):Inv X pins σ H { s with heap:=h',toks:=t' }:=I.un (Un.kept k) (I.bN.kept k)
theorem Inv.laid {a:Addr}{o:HO}{t':Nat}(I:Inv X pins σ H s)(k:∀ b u,s.heap.get? b=some u->h'.get? b=some u)(hp:s.heap.objs.size<=a)(new:b8 X.prog X.w (upd H a o) h' a o) :
  Inv X pins σ (upd H a o) { s with heap:=h',toks:=t' }:=I.un (Un.laid k hp (I.bN.fresh hp)) (I.bN.laid k hp new)
theorem Inv.write {x e:Addr}{o:HO}{t':Nat}(I:Inv X pins σ H s)(mu:Kb (H x)) (he:e=x∨H e=some (.own x)) (k:∀ b u,b≠e->s.heap.get? b=some u->h'.get? b=some u)(Ht:∃ u,h'.get? e=some u)
  (new:b8 X.prog X.w (upd H x o) h' x o):Inv X pins σ (upd H x o) { s with heap:=h',toks:=t' }:=I.un (Un.write mu he k Ht) (I.bN.write mu he k Ht new)
theorem Inv.vT {Dq:List (Addr × Obj)}(I:Inv X pins σ H s)(h:∀ p∈Dq,s.heap.get? p.1=some p.2/\H p.1=none/\p.1≠X.env.locals/\p.1∉X.fs/\∀ v,p.2.data≠.cell v):Inv X Dq σ H s:=
 ⟨I.ok,I.os,I.bare,I.base,I.loc,I.cell,I.free,I.iI,λ p hp=>(List.mem_append.mp hp).elim (λ z=>I.pin p (List.mem_append_left _ z)) (h p),I.bN,I.len⟩
theorem sQ {N:List Str}(hN:N.Nodup){i j:Nat}{x:Str}(a:N[i]? = some x)(b:N[j]? = some x):i=j:=by
 obtain⟨h1,e1⟩:=List.getElem?_eq_some_iff.mp a
 obtain⟨h2,e2⟩:=List.getElem?_eq_some_iff.mp b
 exact(List.getElem_inj hN).mp (e1.trans e2.symm)
theorem pH {M:Model}{A:Around}{E:Value->Shared->Prop}{i:Nat}{x:Str}{v:V}{u:Value}{Q:Unit->Shared->Prop}(I:Inv X pins σ H s)(hN:X.N.Nodup)(hi:X.N[i]? = some x)(hx:Loc X.env.scope x)(r:RelV v u)
  (h:∀ s',Inv X pins (σ.set i (some v)) H s'->(∃ a,Heap.SameBut a s.heap s'.heap/\(a=X.env.locals∨X.env.cells.lookup x=some a))->Q () s') (hf:X.fn x=true∨X.env.scope.names.lookup x=some .local:=by first|exact .inl rfl|exact .inr rfl|assumption):wpAny M A (storeName X.env x u) Q E s:=by
 obtain⟨m,hn,hl⟩:=id I.loc
 have MJ:(X.env.scope.kind == .class || (X.env.scope.kind == .module && X.env.locals != X.env.globals))=false:=by rw[I.ok.kind];rfl
 have hiσ:i < σ.length:=by rw[I.len];exact(List.getElem?_eq_some_iff.mp hi).1
 have GZ:=I.GZ
 have tracked:∀ {a:Addr}{h':Heap},(∃ o,s.heap.get? a=some o/\H a=none)->Heap.SameBut a s.heap h'->j7 X.prog X.w H h':=λ {a h'} ha hs b ob e=>by
  obtain⟨_,_,DB⟩:=ha
  refine(I.bN b ob e).sv (λ c w' hc q=>(hs.2 c ?_).trans q) (λ _ q=>q) λ _ _ q=>q
  rintro rfl
  rcases hc with rfl|hc
  ·rw[DB]at e;cases e
  ·rw[DB]at hc;cases hc
 rcases hx with hk|hk
 ·refine wpAny_storeName_local hk hn (λ h' Qq hs=>?_) MJ
  obtain⟨oL,_,_,hoL,_⟩:=id hn
  refine h _ ⟨I.ok,I.os,I.bare,⟨λ b o e n hb hx=>?_,λ b o e n hb hx=>?_,I.base.free,λ b o e hx=>?_,I.base.ju,I.base.iz,I.base.si⟩,⟨_,Qq,λ j y v' e1 e2 e3=>?_⟩,λ y c e=>?_,I.free,I.iI,λ p hp=>?_,tracked ⟨oL,hoL,I.free⟩ hs,by simpa using I.len⟩ ⟨_,hs,.inl rfl⟩
  ·exact(hs.2 b (Nat.ne_of_lt (Nat.lt_of_lt_of_le (Heap.lt_size e) I.ok.above))).trans (I.base.keep b o e n hb hx)
  ·obtain⟨sl,e1⟩:=I.base.slot b o e n hb hx
   exact⟨sl,(hs.2 b (Nat.ne_of_lt (Nat.lt_of_lt_of_le (Heap.lt_size e) I.ok.above))).trans e1⟩
  ·obtain⟨o',e1⟩:=I.base.there b o e hx
   exact⟨o',(hs.2 b (Nat.ne_of_lt (Nat.lt_of_lt_of_le (Heap.lt_size e) I.ok.above))).trans e1⟩
  ·by_cases hj:j=i
   ·subst hj
    rw[hi]at e1;cases e1
    rw[List.getElem?_set_self hiσ]at e2
    cases e2
    exact⟨u,r,.inl ⟨hk,by simp⟩⟩
   ·rw[List.getElem?_set_ne (Ne.symm hj)]at e2
    obtain⟨u',r',q⟩:=hl j y v' e1 e2 e3
    refine⟨u',r',?_⟩
    rcases q with⟨k,e⟩|⟨k,c,e,z⟩
    ·refine .inl ⟨k,?_⟩
     have:y≠x:=λ e=>hj (sQ hN e1 (e ▸ hi))
     simp[this,e]
    ·exact .inr ⟨k,c,e,z.sameBut hs (GZ y c e)⟩
  ·obtain⟨w',z⟩:=I.cell y c e
   exact⟨w',z.sameBut hs (GZ y c e)⟩
  ·obtain⟨e,n,ne,nf,d⟩:=I.pin p hp
   exact⟨(hs.2 p.1 ne).trans e,n,ne,nf,d⟩
 ·have ME:X.fn x=true:=by
   rcases hf with z|z
   ·exact z
   ·rw[z]at hk;cases hk
  obtain⟨c,hc⟩:=I.ok.has x (.inl hk)
  obtain⟨w',z⟩:=I.cell x c hc
  refine wpAny_storeName_cell I.ok.kind hk hc z (λ h' Ot hs=>?_)
  obtain⟨oc,Od,Mw⟩:=id z
  refine h { s with heap:=h' } ⟨I.ok,I.os,I.bare,⟨λ b o e n hb hx=>?_,λ b o e n hb hx=>?_,I.base.free,λ b o e hx=>?_,I.base.ju,I.base.iz,I.base.si⟩,⟨m,hn.sameBut hs (Ne.symm (GZ x c hc)),λ j y v' e1 e2 e3=>?_⟩,λ y c' e=>?_,I.free,I.iI,λ p hp=>?_,tracked ⟨oc,Od,I.iI x c hc⟩ hs,by simpa using I.len⟩ ⟨c,hs,.inr hc⟩
  ·exact(hs.2 b (Nat.ne_of_lt (Nat.lt_of_lt_of_le (Heap.lt_size e) (I.ok.Hx x c ME hc)))).trans (I.base.keep b o e n hb hx)
  ·obtain⟨sl,e1⟩:=I.base.slot b o e n hb hx
   exact⟨sl,(hs.2 b (Nat.ne_of_lt (Nat.lt_of_lt_of_le (Heap.lt_size e) (I.ok.Hx x c ME hc)))).trans e1⟩
  ·obtain⟨o',e1⟩:=I.base.there b o e hx
   exact⟨o',(hs.2 b (Nat.ne_of_lt (Nat.lt_of_lt_of_le (Heap.lt_size e) (I.ok.Hx x c ME hc)))).trans e1⟩
  ·by_cases hj:j=i
   ·subst hj
    rw[hi]at e1;cases e1
    rw[List.getElem?_set_self hiσ]at e2
    cases e2
    exact⟨u,r,.inr ⟨.inl hk,c,hc,Ot⟩⟩
   ·rw[List.getElem?_set_ne (Ne.symm hj)]at e2
    obtain⟨u',r',q⟩:=hl j y v' e1 e2 e3
    refine⟨u',r',?_⟩
    rcases q with q|⟨k,c',e,z'⟩
    ·exact .inl q
    ·refine .inr ⟨k,c',e,z'.sameBut hs ?_⟩
     rintro rfl
     exact hj (sQ hN e1 (I.ok.inj _ _ _ e hc ▸ hi))
  ·by_cases A3:c'=c
   ·subst A3;exact⟨_,Ot⟩
   ·obtain⟨w2,z2⟩:=I.cell y c' e
    exact⟨w2,z2.sameBut hs A3⟩
  ·obtain⟨e,n,ne,nf,d⟩:=I.pin p hp
   refine⟨(hs.2 p.1 ?_).trans e,n,ne,nf,d⟩
   intro q
   rw[q,Od]at e
   have q':oc=p.2:=Option.some.inj e
   exact d w' (by rw[<-q'];exact Mw)
theorem fZ {M:Model}{A:Around}{E:Value->Shared->Prop}{i:Nat}{x:Str}{v:V}{u:Value}{Q:Unit->Shared->Prop}(I:Inv X pins σ H s)(hN:X.N.Nodup)(hi:X.N[i]? = some x)(hx:Loc X.env.scope x)(r:RelV v u)
  (h:∀ s',Inv X pins (σ.set i (some v)) H s'->Q () s') (hf:X.fn x=true∨X.env.scope.names.lookup x=some .local:=by first|exact .inl rfl|exact .inr rfl|assumption):wpAny M A (storeName X.env x u) Q E s:=
 pH I hN hi hx r (λ s' I' _=>h s' I') hf
theorem Inv.J4 {s':Shared}{ch:List Addr}(I:Inv X pins σ H s)(ho:s'.os=s.os)(u:Un (yq X.stack) ch H H' s.heap s'.heap) (bN:j7 X.prog X.w H' s'.heap)(hg:AllBare s'.gens)
  (A2:∀ b∈ch,(b∈X.ex∨X.fY.heap.objs.size<=b)/\b≠X.env.locals/\(∀ x c,X.env.cells.lookup x=some c->c≠b)/\∀ p∈X.pn++pins,p.1≠b):Inv X pins σ H' s':=by
 obtain⟨h',g',d',t',o'⟩:=s'
 have e:o'=s.os:=ho
 subst e
 exact I.call (g':=g') (t':=t') (d':=d') u bN hg A2
end
abbrev XK:=Value->Option Addr->Hp->Prop
abbrev St:=List (Option V)
abbrev VK:=V->Hp->Prop
abbrev TE:=St->Hp->VK->Prop
abbrev TT:=St->Hp->(Bool->Hp->Prop)->Prop
abbrev TA:=St->Hp->(List V->Hp->Prop)->Prop
structure Ends where
 nx:St->Hp->Prop
 rt:VK
 bk:St->Hp->Prop:=λ _ _=>False
 ct:St->Hp->Prop:=λ _ _=>False
abbrev TS:=Ends->St->Hp->Prop
def EP (X:Cx)(pins:List (Addr × Obj)) (σ:St)(Q:VK)(u:Value)(s':Shared):Prop:=∃ v H',Inv X pins σ H' s'/\RelV v u/\Q v H'
def TP (X:Cx)(pins:List (Addr × Obj)) (σ:St)(Q:Bool->Hp->Prop)(b:Bool)(s':Shared):Prop:=∃ H',Inv X pins σ H' s'/\Q b H'
def AP (X:Cx)(pins:List (Addr × Obj)) (σ:St)(Q:List V->Hp->Prop)(us:List Value)(s':Shared):Prop:=∃ vs H',Inv X pins σ H' s'/\Vals vs us/\Q vs H'
def SP (X:Cx)(pins:List (Addr × Obj)) (D:Ends)(f:Flow)(s':Shared):Prop:=
 match f with
 | .next=>∃ σ' H',Inv X pins σ' H' s'/\D.nx σ' H'
 | .brk=>∃ σ' H',Inv X pins σ' H' s'/\D.bk σ' H'
 | .cont=>∃ σ' H',Inv X pins σ' H' s'/\D.ct σ' H'
 | .ret u=>∃ v σ' H',Inv X pins σ' H' s'/\RelV v u/\D.rt v H'
def PE (X:Cx)(e:Expr)(t:TE):Prop:=
 ∀ (pins:List (Addr × Obj)) (s:Shared) (σ:St) (H:Hp) (Q:VK),Inv X pins σ H s->t σ H Q->wpAny (model X.prog X.w) X.A (eval e X.env) (EP X pins σ Q) X.xe s
def PT (X:Cx)(e:Expr)(t:TT):Prop:=
 ∀ (pins:List (Addr × Obj)) (s:Shared) (σ:St) (H:Hp) (Q:Bool->Hp->Prop),Inv X pins σ H s->t σ H Q->wpAny (model X.prog X.w) X.A (isTrue e X.env (eval e X.env)) (TP X pins σ Q) X.xe s
def PW (X:Cx)(e:Expr)(t:TT):Prop:=
 ∀ (whole:Sem Value) (pins:List (Addr × Obj)) (s:Shared) (σ:St) (H:Hp) (Q:Bool->Hp->Prop),Inv X pins σ H s->t σ H Q->wpAny (model X.prog X.w) X.A (isTrue e X.env whole) (TP X pins σ Q) X.xe s
theorem PW.pt {X:Cx}{e:Expr}{t:TT}(h:PW X e t):PT X e t:=h _
def PA (X:Cx)(es:List Expr)(t:TA):Prop:=
 ∀ (pos:Pos) (pins:List (Addr × Obj)) (s:Shared) (σ:St) (H:Hp) (Q:List V->Hp->Prop),Inv X pins σ H s->t σ H Q->wpAny (model X.prog X.w) X.A (spliced (backTo pos (starEach es X.env))) (AP X pins σ Q) X.xe s
def PS (X:Cx)(st:Stmt)(t:TS):Prop:=
 ∀ (pins:List (Addr × Obj)) (s:Shared) (σ:St) (H:Hp) (D:Ends),Inv X pins σ H s->t D σ H->wpAny (model X.prog X.w) X.A (exec st X.env) (SP X pins D) X.xe s
def ke (X:Cx)(st:List Stmt)(t:TS):Prop:=
 ∀ (pins:List (Addr × Obj)) (s:Shared) (σ:St) (H:Hp) (D:Ends),Inv X pins σ H s->t D σ H->wpAny (model X.prog X.w) X.A (execs st X.env) (SP X pins D) X.xe s
theorem bO {α:Type}{t:Sem α}{Q Q':α->Shared->Prop}{M:Model}{A:Around}{E:Value->Shared->Prop}{s:Shared}(h:wpAny M A t Q E s)(hQ:∀ a s,Q a s->Q' a s):wpAny M A t Q' E s:=wpAny_mono h hQ λ _ _ x=>x
end L2
namespace L2
open PySem PySem.Spec PyProof.Rows
section
variable {X:Cx}
theorem bin {a b:Expr}{ta tb:TE}(ha:PE X a ta)(hb:PE X b tb){pins:List (Addr × Obj)}{s:Shared}{σ:St}{H:Hp}{R:V->V->Hp->Prop}(I:Inv X pins σ H s)(h:ta σ H λ x H1=>tb σ H1 λ y H2=>R x y H2)
  {α:Type}{Q:α->Shared->Prop}{f:Value->Value->Sem α}
  (hf:∀ v u s2 x y H2,Inv X pins σ H2 s2->RelV x v->RelV y u->R x y H2->wpAny (model X.prog X.w) X.A (f v u) Q X.xe s2) :
  wpAny (model X.prog X.w) X.A (eval a X.env) (λ v s₁=>wpAny (model X.prog X.w) X.A (eval b X.env) (λ u s₂=>wpAny (model X.prog X.w) X.A (f v u) Q X.xe s₂) X.xe s₁) X.xe s:=by
 refine bO (ha pins s σ H _ I h) λ v s1 ⟨x,H1,I1,r1,q1⟩=>?_
 refine bO (hb pins s1 σ H1 _ I1 q1) λ u s2 ⟨y,H2,I2,r2,q2⟩=>?_
 exact hf v u s2 x y H2 I2 r1 r2 q2
def Eg (i:Nat):TE:=λ σ H Q=>∃ v,σ[i]? = some (some v)/\Q v H
def tC (v:V):TE:=λ _ H Q=>Q v H
theorem EO {i:Nat}{x:Str}{pos:Pos}(hN:X.N[i]? = some x)(hv:Nz X.env.scope x)(hd:(x == ("__debug__":Str))=false:=by decide) (yn:(x == ("__classdict__":Str))=false:=by decide):PE X (.Name x pos) (Eg i):=by
 intro pins s σ H Q I h
 obtain⟨v,e,h⟩:=h
 obtain⟨m,hn,hl⟩:=I.loc
 obtain⟨u,r,l⟩:=hl i x v hN e hv
 have fin:EP X pins σ Q u s:=⟨v,H,I,r,h⟩
 rcases l with⟨hk,hm⟩|⟨hk,c,hc,qa⟩
 ·exact wpAny_Name (wpAny_loadName_local I.ok.kind hk hn hm fin) hd
 ·rcases hk with hk|hk
  ·exact wpAny_Name (wpAny_loadName_cell I.ok.kind hk hc qa fin) hd
  ·exact wpAny_Name (wpAny_loadName_free I.ok.kind hk hc qa fin yn) hd
theorem EY {i j pos}:PE X (.Constant (.int i) j pos) (tC (.int i)):=λ _ _ _ H _ I h=>wpAny_Constant_int ⟨.int i,H,I.tok _,⟨_,rfl⟩,h⟩
theorem Io {b j pos}:PE X (.Constant (.bool b) j pos) (tC (.bl b)):=λ _ _ _ H _ I h=>Constant_bool ⟨.bl b,H,I,rfl,h⟩
theorem EW {j pos}:PE X (.Constant .none j pos) (tC .aY):=λ _ _ _ H _ I h=>Constant_none ⟨.aY,H,I,rfl,h⟩
theorem ES {x j pos}:PE X (.Constant (.str x) j pos) (tC (.str x)):=λ _ _ _ H _ I h=>Calls.Constant_str ⟨.str x,H,I.tok _,⟨_,rfl⟩,h⟩
def Gl (X:Cx)(x:Str):Prop:=X.env.kindOf x=some .globalImplicit
theorem we {E:Value->Shared->Prop}{pins:List (Addr × Obj)}{s:Shared}{σ:St}{H:Hp}{x:Str}{u:Value}{pos:Pos}{Q:Value->Shared->Prop}(I:Inv X pins σ H s)(hg:Gl X x)(hm:X.mg x=some u)(h:Q u s)
  (hd:(x == ("__debug__":Str))=false:=by decide):wpAny (model X.prog X.w) X.A (eval (.Name x pos) X.env) Q E s:=
 Calls.Name_function_global I.ok.kind hg (Calls.loadGlobal_global (by rw[I.ok.glob];exact I.mod.glob.keeps I.bk) hm h) hd
theorem n4 {E:Value->Shared->Prop}{pins:List (Addr × Obj)}{s:Shared}{σ:St}{H:Hp}{x:Str}{u:Value}{pos:Pos}{Q:Value->Shared->Prop}(I:Inv X pins σ H s)(hg:Gl X x)(hm:X.mg x=none)(hv:bootBuiltins x=some u)(h:Q u s)
  (hn:x≠"__name__":=by decide) (hd:(x == ("__debug__":Str))=false:=by decide):wpAny (model X.prog X.w) X.A (eval (.Name x pos) X.env) Q E s:=by
 obtain⟨mb,h1,h2⟩:=I.mod.blt
 exact Calls.Name_function_global I.ok.kind hg (Calls.loadGlobal_builtin (by rw[I.ok.glob];exact I.mod.glob.keeps I.bk) hm (by rw[I.ok.blt];exact h1.keeps I.bk) ((h2 x hn).trans hv) h) hd
theorem BN {x:Str}{v:V}{u:Value}{pos:Pos}(hg:Gl X x)(hm:X.mg x=some u)(r:RelV v u)(hd:(x == ("__debug__":Str))=false:=by decide):PE X (.Name x pos) (tC v):=
 λ _ _ _ H _ I h=>we I hg hm ⟨v,H,I,r,h⟩ hd
theorem qH {x:Str}{v:V}{u:Value}{pos:Pos}(hg:Gl X x)(hm:X.mg x=none)(hv:bootBuiltins x=some u)(r:RelV v u)(hn:x≠"__name__":=by decide)(hd:(x == ("__debug__":Str))=false:=by decide):PE X (.Name x pos) (tC v):=
 λ _ _ _ H _ I h=>n4 I hg hm hv ⟨v,H,I,r,h⟩ hn hd
variable {a b:Expr}{ta tb:TE}{pos:Pos}
def PC (X:Cx)(op:CmpOp)(a b:Expr)(t:TE):Prop:=
 ∀ (pins:List (Addr × Obj)) (s:Shared) (σ:St) (H:Hp) (Q:VK),Inv X pins σ H s->t σ H Q->
  wpAny (model X.prog X.w) X.A (eval a X.env) (λ v s₁=>wpAny (model X.prog X.w) X.A (eval b X.env) (λ u s₂=>wpAny (model X.prog X.w) X.A (compareOp op v u) (EP X pins σ Q) X.xe s₂) X.xe s₁) X.xe s
theorem zm (b:Expr){op:CmpOp}(h:op≠.In)(h2:op≠.NotIn):behindInMarks op b=false:=by
 have e1:(op == CmpOp.In)=false:=by cases op<;>first|rfl|exact absurd rfl h
 have e2:(op == CmpOp.NotIn)=false:=by cases op<;>first|rfl|exact absurd rfl h2
 cases b<;>simp[behindInMarks,e1,e2]
def tB (t:TE):TT:=λ σ H Q=>t σ H λ x H1=>∃ c,x=.bl c/\Q c H1
theorem EE {op:CmpOp}{t:TE}(h:PC X op a b t)(h1:behindInMarks op b=false:=by first|exact zm _ (by decide) (by decide)|rfl):PT X (.Compare a [op] [b] pos) (tB t):=by
 intro pins s σ H Q I hw
 refine wpAny_isTrue_Compare1 (bO (h pins s σ H _ I hw) λ v s1 h1=>bO h1 λ u s2 h2=>bO h2 λ c s3 ⟨x,H1,I1,r1,q1⟩=>?_) h1
 obtain⟨d,rfl,q⟩:=q1
 cases r1
 exact wpAny_truthy_bool ⟨H1,I1,q⟩
variable {tA tB':TT}{rest:List Expr}
def Pb (t u:TT):TT:=λ σ H Q=>t σ H λ c H1=>if c=true then Q true H1 else u σ H1 Q
def Lf (t:TT):TT:=λ σ H Q=>t σ H λ c H1=>Q (!c) H1
theorem pw_or1 (ha:PT X a tA):PW X (.BoolOp .Or [a] pos) tA:=by
 intro wh pins s σ H Q I h
 refine isTrue_or (bO (ha pins s σ H Q I h) λ c s1 e=>?_)
 cases c with
 | false=>exact isTrue_or_nil e
 | true=>exact e
theorem pw_or (ha:PT X a tA)(hb:PW X (.BoolOp .Or (b :: rest) pos) tB'):PW X (.BoolOp .Or (a :: b :: rest) pos) (Pb tA tB'):=by
 intro wh pins s σ H Q I h
 refine isTrue_or (bO (ha pins s σ H _ I h) λ c s1 ⟨H1,I1,q1⟩=>?_)
 cases c with
 | true=>exact⟨H1,I1,q1⟩
 | false=>exact hb wh pins s1 σ H1 Q I1 q1
theorem ED (ha:PT X a tA):PT X (.UnaryOp .Not a pos) (Lf tA):=by
 intro pins s σ H Q I h
 exact isTrue_not (ha pins s σ H (λ c H1=>Q (!c) H1) I h)
def HP (ta tb:TE):TE:=λ σ H Q=>ta σ H λ x H1=>∃ c,x=.bl c/\if c=true then tb σ H1 Q else Q (.bl false) H1
def Ld (ta tb:TE):TE:=λ σ H Q=>ta σ H λ x H1=>∃ c,x=.bl c/\if c=true then Q (.bl true) H1 else tb σ H1 Q
def HI (ta:TE):TE:=λ σ H Q=>ta σ H λ x H1=>∃ c,x=.bl c/\Q (.bl (!c)) H1
theorem EU {op} {t:TE}(h:PE X a t):PE X (.BoolOp op [a] pos) t:=λ pins s σ H Q I hw=>BoolOp_one (h pins s σ H Q I hw)
theorem E4 (ha:PE X a ta)(hb:PE X (.BoolOp .And (b :: rest) pos) tb):PE X (.BoolOp .And (a :: b :: rest) pos) (HP ta tb):=by
 intro pins s σ H Q I h
 refine BoolOp_and (bO (ha pins s σ H _ I h) λ v s1 ⟨x,H1,I1,r1,q1⟩=>?_)
 obtain⟨c,rfl,q1⟩:=q1
 cases r1
 refine wpAny_truthy_bool ?_
 cases c with
 | true=>exact hb pins s1 σ H1 Q I1 q1
 | false=>exact⟨.bl false,H1,I1,rfl,q1⟩
theorem Ij (ha:PE X a ta)(hb:PE X (.BoolOp .Or (b :: rest) pos) tb):PE X (.BoolOp .Or (a :: b :: rest) pos) (Ld ta tb):=by
 intro pins s σ H Q I h
 refine BoolOp_or (bO (ha pins s σ H _ I h) λ v s1 ⟨x,H1,I1,r1,q1⟩=>?_)
 obtain⟨c,rfl,q1⟩:=q1
 cases r1
 refine wpAny_truthy_bool ?_
 cases c with
 | false=>exact hb pins s1 σ H1 Q I1 q1
 | true=>exact⟨.bl true,H1,I1,rfl,q1⟩
theorem EV (ha:PE X a ta):PE X (.UnaryOp .Not a pos) (HI ta):=by
 intro pins s σ H Q I h
 refine UnaryOp_ (bO (ha pins s σ H _ I h) λ v s1 ⟨x,H1,I1,r1,q1⟩=>?_)
 obtain⟨c,rfl,q1⟩:=q1
 cases r1
 exact not_of (wpAny_truthy_bool ⟨.bl (!c),H1,I1,rfl,q1⟩)
def Pc (t:TT)(ta tb:TE):TE:=λ σ H Q=>t σ H λ c H1=>if c=true then ta σ H1 Q else tb σ H1 Q
theorem zd {c:Expr}(hc:PT X c tA)(ha:PE X a ta)(hb:PE X b tb):PE X (.IfExp c a b pos) (Pc tA ta tb):=by
 intro pins s σ H Q I h
 refine wpAny_IfExp (bO (hc pins s σ H _ I h) λ d s1 ⟨H1,I1,q1⟩=>?_)
 cases d with
 | true=>exact ha pins s1 σ H1 Q I1 q1
 | false=>exact hb pins s1 σ H1 Q I1 q1
end
end L2
namespace L2
open PySem PySem.Spec PyProof.Rows
def fJ (K:PySem.W.Frag)(H:Hp)(a:Addr)(xs:List V):Prop:=
 Rd H a (.lst xs)∨
  ∃ (o:Obj) (its:Array Value) (n:Nat),K.lookup a=some o/\o.cls=.type "list"/\o.dict=none/\o.data=.seq its n/\its.size<=sizeLine/\Vals xs its.toList
def gF (K:PySem.W.Frag)(H:Hp)(a:Addr)(xs:List V):Prop:=
 Rd H a (.tup xs)∨
  ∃ (o:Obj) (its:Array Value) (n:Nat),K.lookup a=some o/\o.cls=.type "tuple"/\o.data=.seq its n/\its.size<=sizeLine/\Vals xs its.toList
def Ny:Value->Option V
 | .none=>some .aY
 | .bool b=>some (.bl b)
 | .int i _=>some (.int i)
 | .str x _=>some (.str x)
 | .bytes b _=>some (.vn b)
 | .float b _=>some (.DH b)
 | .ref a=>some (.ref a)
 | .type n=>some (.ty n)
 | _=>none
theorem RelV.abs {x:V}{u:Value}(r:RelV x u):Ny u=some x:=by
 cases x with
 | aY=>cases r;rfl
 | bl _=>cases r;rfl
 | int _=>obtain⟨t,rfl⟩:=r;rfl
 | str _=>obtain⟨t,rfl⟩:=r;rfl
 | vn _=>obtain⟨t,rfl⟩:=r;rfl
 | DH _=>obtain⟨t,rfl⟩:=r;rfl
 | ref _=>cases r;rfl
 | ty _=>cases r;rfl
theorem RelV.inj {x y:V}{u:Value}(r:RelV x u)(q:RelV y u):x=y:=Option.some.inj (r.abs.symm.trans q.abs)
theorem Vals.inj:∀ {xs ys:List V}{us:List Value},Vals xs us->Vals ys us->xs=ys
 | _,_,_,.nil,.nil=>rfl
 | _,_,_,.cons r t,.cons r' t'=>by rw[r.inj r',Vals.inj t t']
section
variable {X:Cx}{pins:List (Addr × Obj)}{σ:St}{H:Hp}{s:Shared}{a:Addr}{xs ys:List V}
theorem fJ.of {K:PySem.W.Frag}(h:H a=some (.lst xs)):fJ K H a xs:=.inl (.inl h)
theorem gF.of {K:PySem.W.Frag}(h:H a=some (.tup xs)):gF K H a xs:=.inl (.inl h)
theorem Inv.list (I:Inv X pins σ H s)(h:fJ X.K H a xs):∃ its:List Value,Vals xs its/\PlainL s.heap a its.toArray/\xs.length<=sizeLine:=by
 rcases h with h|⟨o,its,n,hk,hc,hd,hs,hz,r⟩
 ·obtain⟨z,its,n,r,e⟩:=h.ok I.bN
  exact⟨its,r,⟨_,n,e,rfl,rfl,rfl⟩,z⟩
 ·refine⟨its.toList,r,⟨o,n,I.lQ a o hk,hc,hd,by simpa using hs⟩,?_⟩
  have e:=r.length
  simp only[Array.length_toList]at e
  omega
theorem Inv.tuple (I:Inv X pins σ H s)(h:gF X.K H a xs):∃ its:List Value,Vals xs its/\IsTup s.heap a its.toArray/\xs.length<=sizeLine:=by
 rcases h with h|⟨o,its,n,hk,hc,hs,hz,r⟩
 ·obtain⟨z,its,r,p⟩:=h.ok I.bN
  exact⟨its,r,p,z⟩
 ·refine⟨its.toList,r,⟨o,I.lQ a o hk,hc,n,by simpa using hs⟩,?_⟩
  have e:=r.length
  simp only[Array.length_toList]at e
  omega
theorem Inv.nX (I:Inv X pins σ H s)(h:fJ X.K H a xs)(h':fJ X.K H a ys):xs=ys:=by
 obtain⟨its,r,⟨o,n,e,_,_,d⟩,_⟩:=I.list h
 obtain⟨its',r',⟨o',n',e',_,_,d'⟩,_⟩:=I.list h'
 rw[e]at e';cases e'
 rw[d]at d'
 injection d' with d1 _
 have:its=its':=by simpa using congrArg Array.toList d1
 subst this
 exact r.inj r'
theorem Inv.lC (I:Inv X pins σ H s)(h:gF X.K H a xs)(h':gF X.K H a ys):xs=ys:=by
 obtain⟨its,r,⟨o,e,_,n,d⟩,_⟩:=I.tuple h
 obtain⟨its',r',⟨o',e',_,n',d'⟩,_⟩:=I.tuple h'
 rw[e]at e';cases e'
 rw[d]at d'
 injection d' with d1 _
 have:its=its':=by simpa using congrArg Array.toList d1
 subst this
 exact r.inj r'
end
abbrev Cx.oW (X:Cx)(E:Value->Shared->Prop):Cx:={ X with xe:=E }
abbrev Cx.Hk (X:Cx):Cx:=X.oW λ _ _=>False
theorem Cx.Ok.oW {X:Cx}(ok:X.Ok)(E:Value->Shared->Prop):(X.oW E).Ok:=
 ⟨ok.mod,ok.kind,ok.glob,ok.blt,ok.above,ok.inj,ok.has,ok.Hx,ok.hd,ok.frames,ok.HQ,ok.M0,ok.bs,ok.C2,ok.xH,ok.yb,ok.mH,ok.GF⟩
theorem Cx.Ok.iQ {X:Cx}{E:Value->Shared->Prop}(ok:(X.oW E).Ok):X.Ok:=
 ⟨ok.mod,ok.kind,ok.glob,ok.blt,ok.above,ok.inj,ok.has,ok.Hx,ok.hd,ok.frames,ok.HQ,ok.M0,ok.bs,ok.C2,ok.xH,ok.yb,ok.mH,ok.GF⟩
section
variable {X:Cx}{pins:List (Addr × Obj)}{σ:St}{H:Hp}{s:Shared}{E:Value->Shared->Prop}
theorem Inv.oW (I:Inv X pins σ H s)(E:Value->Shared->Prop):Inv (X.oW E) pins σ H s:=⟨I.ok.oW E,I.os,I.bare,I.base,I.loc,I.cell,I.free,I.iI,I.pin,I.bN,I.len⟩
theorem Inv.iQ (I:Inv (X.oW E) pins σ H s):Inv X pins σ H s:=⟨I.ok.iQ,I.os,I.bare,I.base,I.loc,I.cell,I.free,I.iI,I.pin,I.bN,I.len⟩
theorem SP.iQ {D:Ends}{f:Flow}{s':Shared}(h:SP (X.oW E) pins D f s'):SP X pins D f s':=by
 cases f with
 | next=>obtain⟨σ',H',I,q⟩:=h;exact⟨σ',H',I.iQ,q⟩
 | brk=>obtain⟨σ',H',I,q⟩:=h;exact⟨σ',H',I.iQ,q⟩
 | cont=>obtain⟨σ',H',I,q⟩:=h;exact⟨σ',H',I.iQ,q⟩
 | ret u=>obtain⟨v,σ',H',I,r,q⟩:=h;exact⟨v,σ',H',I.iQ,r,q⟩
theorem ke.Hk {st:List Stmt}{t:TS}(h:ke X.Hk st t):ke X st t:=λ pins s σ H D I hw=>
 wpAny_mono (h pins s σ H D (I.oW _) hw) (λ _ _ q=>q.iQ) λ _ _ z=>False.elim z
end
section
variable {X:Cx}{st:Stmt}{rest:List Stmt}{t u:TS}{e:Expr}{te:TE}{pos:Pos}
def HJ:TS:=λ D σ H=>D.nx σ H
def K' (t u:TS):TS:=λ D σ H=>t { D with nx:=u D } σ H
theorem By:ke X [] HJ:=λ _ _ σ H _ I h=>wpAny_execs_nil ⟨σ,H,I,h⟩
theorem yW (h1:PS X st t)(h2:ke X rest u):ke X (st :: rest) (K' t u):=by
 intro pins s σ H D I h
 refine wpAny_execs_cons (bO (h1 pins s σ H { D with nx:=u D } I h) λ f s1 q=>?_)
 cases f with
 | next=>
  obtain⟨σ',H',I',q⟩:=q
  exact h2 pins s1 σ' H' D I' q
 | ret v=>exact q
 | brk=>exact q
 | cont=>exact q
theorem Bx (h1:PS X st t):ke X [st] t:=by
 intro pins s σ H D I h
 refine wpAny_execs_cons (bO (h1 pins s σ H D I h) λ f s1 q=>?_)
 cases f with
 | next=>exact wpAny_execs_nil q
 | ret v=>exact q
 | brk=>exact q
 | cont=>exact q
theorem Inv.quiet {pins:List (Addr × Obj)}{σ:St}{H:Hp}{s:Shared}(I:Inv X pins σ H s):interactive X.env=false:=by simp[interactive,I.ok.kind]
def HK (te:TE):TS:=λ D σ H=>te σ H λ _ H1=>D.nx σ H1
theorem BA (he:PE X e te)(hs:swapsWith e none pos.line X.env=pure false:=by rfl):PS X (.Expr e pos) (HK te):=by
 intro pins s σ H D I h
 exact wpAny_Expr_any (bO (he pins s σ H _ I h) λ v s1 ⟨x,H1,I1,r1,q1⟩=>⟨σ,H1,I1,q1⟩) I.quiet hs
def La (te:TE):TS:=λ D σ H=>te σ H D.rt
theorem EG (he:PE X e te):PS X (.Return (some e) pos) (La te):=by
 intro pins s σ H D I h
 exact wpAny_Return_some (bO (he pins s σ H _ I h) λ v s1 ⟨x,H1,I1,r1,q1⟩=>⟨x,σ,H1,I1,r1,q1⟩)
def Lh (c:TT)(t u:TS):TS:=λ D σ H=>c σ H λ b H1=>if b=true then t D σ H1 else u D σ H1
theorem Ig {c:Expr}{a b:List Stmt}{tc:TT}(hc:PT X c tc)(ha:ke X a t)(hb:ke X b u):PS X (.If c a b pos) (Lh tc t u):=by
 intro pins s σ H D I h
 refine wpAny_If (bO (hc pins s σ H _ I h) λ d s1 ⟨H1,I1,q1⟩=>?_)
 cases d with
 | true=>exact ha pins s1 σ H1 D I1 q1
 | false=>exact hb pins s1 σ H1 D I1 q1
end
abbrev TG:=V->St->Hp->(St->Hp->Prop)->Prop
abbrev C7:=List V->St->Hp->(St->Hp->Prop)->Prop
def PG (X:Cx)(target:Expr)(t:TG):Prop:=
 ∀ (pins:List (Addr × Obj)) (s:Shared) (σ:St) (H:Hp) (v:V) (u:Value) (Q:St->Hp->Prop),Inv X pins σ H s->RelV v u->t v σ H Q->
  wpAny (model X.prog X.w) X.A (assign target X.env u) (λ _ s'=>∃ σ' H',Inv X pins σ' H' s'/\Q σ' H') X.xe s
def xf (X:Cx)(ts:List Expr)(t:C7):Prop:=
 ∀ (pins:List (Addr × Obj)) (s:Shared) (σ:St) (H:Hp) (vs:List V) (us:List Value) (Q:St->Hp->Prop),Inv X pins σ H s->Vals vs us->t vs σ H Q->
  wpAny (model X.prog X.w) X.A (assignInOrder ((assignEach ts X.env).map (·.2)) us) (λ _ s'=>∃ σ' H',Inv X pins σ' H' s'/\Q σ' H') X.xe s
abbrev He:=V->V->V->Hp->(Hp->Prop)->Prop
def Ka (X:Cx)(t:He):Prop:=
 ∀ (pins:List (Addr × Obj)) (s:Shared) (σ:St) (H:Hp) (o i v:V) (ov iv u:Value) (Q:Hp->Prop),Inv X pins σ H s->RelV o ov->RelV i iv->RelV v u->t o i v H Q->
  wpAny (model X.prog X.w) X.A (setItem ov iv u) (λ _ s'=>∃ H',Inv X pins σ H' s'/\Q H') X.xe s
section
variable {X:Cx}{pos:Pos}
def wH (i:Nat):TG:=λ v σ H Q=>Q (σ.set i (some v)) H
theorem BM {i:Nat}{x:Str}(hN:X.N.Nodup)(hi:X.N[i]? = some x)(hx:Loc X.env.scope x)(hf:X.fn x=true∨X.env.scope.names.lookup x=some .local:=by first|exact .inl rfl|exact .inr rfl|assumption):PG X (.Name x pos) (wH i):=by
 intro pins s σ H v u Q I r h
 exact wpAny_assign_Name (fZ I hN hi hx r (λ s' I'=>⟨_,H,I',h⟩) hf)
def MX:C7:=λ vs σ H Q=>vs=[]/\Q σ H
def JO (t:TG)(u:C7):C7:=λ vs σ H Q=>∃ v r,vs=v :: r/\t v σ H λ σ' H'=>u r σ' H' Q
theorem BL:xf X [] MX:=by
 intro pins s σ H vs us Q I r h
 obtain⟨e,h⟩:=h
 subst e
 cases r
 exact assignInOrder_nil ⟨σ,H,I,h⟩
theorem zb {e:Expr}{es:List Expr}{t:TG}{u:C7}(h1:PG X e t)(h2:xf X es u)
  (hs:(assignEach (e :: es) X.env).map (·.2)=assign e X.env :: (assignEach es X.env).map (·.2):=by rfl):xf X (e :: es) (JO t u):=by
 intro pins s σ H vs us Q I r h
 obtain⟨v,vr,e1,h⟩:=h
 subst e1
 cases r with
 | cons r rr=>
  rw[hs]
  refine assignInOrder_cons (bO (h1 pins s σ H _ _ _ I r h) λ _ s1 ⟨σ1,H1,I1,q1⟩=>?_)
  exact h2 pins s1 σ1 H1 _ _ Q I1 rr q1
def MV (K:PySem.W.Frag)(n:Nat)(t:C7):TG:=λ v σ H Q=>∃ a xs,v=.ref a/\gF K H a xs/\xs.length=n/\t xs σ H Q
theorem EM {es:List Expr}{k:Nat}{t:C7}{n:Nat}(hc:X.calm=true)(h:xf X es t)
  (hn:(assignEach es X.env).length=n:=by rfl) (A1:(assignEach es X.env).findIdx? (·.1)=none:=by rfl):PG X (.Tuple es k pos) (MV X.K n t):=by
 intro pins s σ H v u Q I r hw
 obtain⟨a,xs,e1,hq,hl,hw⟩:=hw
 subst e1
 cases r
 obtain⟨its,rv,ht,hz⟩:=I.tuple hq
 refine assign_Tuple_tuple (I.ok.hd hc) ht (by simp[hn,<-hl,rv.length]) A1 λ h' hx=>?_
 have I1:Inv X pins σ H { s with heap:=h' }:=I.kept (t':=s.toks) λ b o e=>hx b o (Nat.ne_of_lt (Heap.lt_size e)) e
 exact h pins _ σ H xs _ Q I1 (by simpa using rv) hw
def MW (to ti:TE)(t:He):TG:=λ v σ H Q=>to σ H λ o H1=>ti σ H1 λ i H2=>t o i v H2 λ H3=>Q σ H3
theorem EN {o i:Expr}{to ti:TE}{t:He}(ho:PE X o to)(hi:PE X i ti)(hs:Ka X t)
  (ha:∀ v,assign (.Subscript o i pos) X.env v=(do
   let ov <-holding [v] (eval o X.env)
   let iv <-holding [v,ov] (eval i X.env)
   standAt pos
   holding [v,ov,iv] (setItem ov iv v)
   release [v,ov,iv] []):=by intro _;rfl):PG X (.Subscript o i pos) (MW to ti t):=by
 intro pins s σ H v u Q I r h
 rw[ha]
 refine wpAny_bind (wpAny_holding (bO (ho pins s σ H _ I h) λ ov s1 ⟨x,H1,I1,r1,q1⟩=>?_))
 refine wpAny_bind (wpAny_holding (bO (hi pins s1 σ H1 _ I1 q1) λ iv s2 ⟨y,H2,I2,r2,q2⟩=>?_))
 refine wpAny_bind (wpAny_standAt (wpAny_bind (wpAny_holding (bO (hs pins s2 σ H2 x y v ov iv u _ I2 r1 r2 r q2) λ _ s3 ⟨H3,I3,q3⟩=>?_))))
 exact wpAny_release ⟨σ,H3,I3,q3⟩
def Bi (te:TE)(g:TG):TS:=λ D σ H=>te σ H λ x H1=>g x σ H1 D.nx
theorem EJ {tg e:Expr}{te:TE}{g:TG}(he:PE X e te)(hg:PG X tg g)(hs:swapsWithSole [tg] e pos.line X.env=pure false:=by rfl)(hw:swappedStores [tg] e X.env=pure none:=by rfl)
  (h1:(assignEach [tg] X.env).map (·.2)=[assign tg X.env]:=by rfl):PS X (.Assign [tg] e pos) (Bi te g):=by
 intro pins s σ H D I h
 refine wpAny_Assign_stores (bO (he pins s σ H _ I h) λ v s1 ⟨x,H1,I1,r1,q1⟩=>?_) hs hw
 rw[h1]
 exact bO (hg pins s1 σ H1 x v _ I1 r1 q1) λ _ s2 q=>q
theorem EF {i:Nat}{x:Str}{e:Expr}{te:TE}{pos':Pos}(hN:X.N.Nodup)(hi:X.N[i]? = some x)(hx:Loc X.env.scope x)(he:PE X e te)(hs:swapsWith e (some (.Name x pos')) pos.line X.env=pure false:=by rfl) (hf:X.fn x=true∨X.env.scope.names.lookup x=some .local:=by first|exact .inl rfl|exact .inr rfl|assumption) :
  PS X (.Assign [.Name x pos'] e pos) (Bi te (wH i)):=by
 intro pins s σ H D I h
 refine wpAny_Assign_Name (bO (he pins s σ H _ I h) λ v s1 ⟨y,H1,I1,r1,q1⟩=>?_) hs
 exact fZ I1 hN hi hx r1 (λ s2 I2=>⟨_,H1,I2,q1⟩) hf
def Lb (i j:Nat)(ta:TA):TS:=λ D σ H=>ta σ H λ vs H1=>∃ v w,vs=[v,w]/\D.nx ((σ.set i (some v)).set j (some w)) H1
theorem EH {i j:Nat}{x y:Str}{a b:Expr}{ta:TA}{px py pt:Pos}{kt k2 uL} (hc:X.calm=true)(hN:X.N.Nodup)(hi:X.N[i]? = some x)(hj:X.N[j]? = some y)(tI:i≠j)
  (hx:X.env.scope.names.lookup x=some .local) (hy:X.env.scope.names.lookup y=some .local) (ha:PA X [a,b] ta)
  (hw:swappedStores [.Tuple [.Name x px,.Name y py] kt pt] (.Tuple [a,b] k2 uL) X.env=pure (some [x,y]))
  (hs:swapsWithSole [.Tuple [.Name x px,.Name y py] kt pt] (.Tuple [a,b] k2 uL) pos.line X.env=pure false:=by rfl) :
  PS X (.Assign [.Tuple [.Name x px,.Name y py] kt pt] (.Tuple [a,b] k2 uL) pos) (Lb i j ta):=by
 intro pins s σ H D I h
 rw[exec_Assign_arm]
 refine wpAny_bind (wpAny_standAt ?_)
 rw[hs]
 refine wpAny_bind (wpAny_pure ?_)
 rw[if_neg (by decide)]
 refine wpAny_bind (Tuple_ (bO (ha _ pins s σ H _ I h) λ us s1 ⟨vs,H1,I1,r1,q1⟩=>?_))
 obtain⟨v,w,e1,q1⟩:=q1
 subst e1
 obtain⟨u1,u2,rfl,rv,sE⟩:∃ u1 u2,us=[u1,u2]/\RelV v u1/\RelV w u2:=by
  cases r1 with
  | cons p q=>
   cases q with
   | cons p' q'=>
    cases q'
    exact⟨_,_,rfl,p,p'⟩
 refine wpAny_newObj_type ?_ (by show 2<=sizeLine;decide)
 have I2:Inv X pins σ H1 { s1 with heap:=s1.heap.push { cls:=.type "tuple",data:=.seq [u1,u2].toArray } }:=I1.kept (t':=s1.toks) λ b o e=>Heap.get?_push_of_some _ e
 rw[hw]
 refine wpAny_bind (wpAny_pure ?_)
 show wpAny (model X.prog X.w) X.A (do rule "assign.swapped-stores";let items <-unpackItems (.ref s1.heap.objs.size) 2 none;assignInOrder [λ v=>bindName X.env y v,λ v=>bindName X.env x v] items.reverse;pure Flow.next) _ _ _
 refine wpAny_bind (wpAny_rule (wpAny_bind (unpackItems_tuple (items:=#[u1,u2]) (I.ok.hd hc) (IsTup.new s1.heap _) λ h' Ab=>?_)))
 have I3:=I2.kept (h':=h') (t':=s1.toks) λ b o e=>Ab b o (Nat.ne_of_lt (Heap.lt_size e)) e
 show wpAny _ _ (assignInOrder [λ v=>bindName X.env y v,λ v=>bindName X.env x v] [u2,u1] >>= λ _=>pure Flow.next) _ _ _
 refine wpAny_bind (assignInOrder_cons (wpAny_bindName (fZ I3 hN hj (.inl hy) sE (λ s2 I4=>?_) (.inr hy))))
 refine assignInOrder_cons (wpAny_bindName (fZ I4 hN hi (.inl hx) rv (λ s3 I5=>assignInOrder_nil (wpAny_pure ?_)) (.inr hx)))
 rw[List.set_comm _ _ (Ne.symm tI)]at I5
 exact⟨_,H1,I5,q1⟩
end
section
variable {X:Cx}{pos:Pos}
def Ef (c:TT)(tb:TS):TS:=λ D σ H=>∃ W:Nat->St->Hp->Prop,(∃ m,W m σ H)/\∀ m σ H,W m σ H->
 c σ H λ b H1=>if b=true then ∃ N:St->Hp->Prop,(∀ σ' H',N σ' H'->∃ m',m' < m/\W m' σ' H')/\tb { D with nx:=N,ct:=N,bk:=D.nx } σ H1 else D.nx σ H1
theorem yX {c:Expr}{body:List Stmt}{tc:TT}{tb:TS}(hp:PassesOwn (model X.prog X.w) X.A X.env X.xe) (hc:PT X c tc)(hb:ke X body tb):PS X (.While c body [] pos) (Ef tc tb):=by
 intro pins s σ H D I h
 obtain⟨W,⟨m0,w0⟩,turn⟩:=h
 refine wpAny_While (codeAny_whileLoop (λ n s'=>∃ σ' H',Inv X pins σ' H' s'/\W n σ' H') ?_ m0 ⟨σ,H,I,w0⟩)
 rintro n s1 ⟨σ1,H1,I1,w1⟩
 refine wpAny_passesOwn hp (bO (hc pins s1 σ1 H1 _ I1 (turn n σ1 H1 w1)) λ b s2 ⟨H2,I2,q2⟩=>?_)
 cases b with
 | true=>
  obtain⟨N,hN,q2⟩:=q2
  rw[if_pos rfl]
  refine wpAny_passesOwn hp (bO (hb pins s2 σ1 H2 _ I2 q2) λ f s3 q3=>?_)
  cases f with
  | next=>
   obtain⟨σ3,H3,I3,n3⟩:=q3
   obtain⟨m',hm,w3⟩:=hN σ3 H3 n3
   exact⟨m',hm,σ3,H3,I3,w3⟩
  | cont=>
   obtain⟨σ3,H3,I3,n3⟩:=q3
   obtain⟨m',hm,w3⟩:=hN σ3 H3 n3
   exact⟨m',hm,σ3,H3,I3,w3⟩
  | brk=>exact q3
  | ret v=>exact q3
 | false=>
  rw[if_neg Bool.false_ne_true]
  exact wpAny_execs_nil ⟨σ1,H2,I2,q2⟩
end
structure It where
 go:Nat->Hp->Prop
 Dd:Nat->Hp->V->Hp->Prop
 stop:Nat->Hp->Prop
def mN (X:Cx)(pins:List (Addr × Obj)) (H:Hp)(b:Addr):Prop:=
 H b=none/\b≠X.env.locals/\b∉X.fs/\(b∈X.ex∨X.fY.heap.objs.size<=b)/\(∀ x c,X.env.cells.lookup x=some c->c≠b)/\∀ p∈X.pn++pins,p.1≠b
theorem Inv.vf {X:Cx}{pins:List (Addr × Obj)}{σ:St}{H H':Hp}{s:Shared}{b:Addr}(I:Inv X pins σ H s)(hb:s.heap.objs.size<=b)(hn:H' b=none):mN X pins H' b:=by
 refine⟨hn,Nat.ne_of_gt (Nat.lt_of_lt_of_le I.lt hb),I.LU hb,.inr (Nat.le_trans I.sz hb),λ x c e z=>?_,λ p hp z=>?_⟩
 ·obtain⟨v,q⟩:=I.cell x c e
  exact absurd (Nat.lt_of_lt_of_le q.lt (by rw[z];exact hb)) (Nat.lt_irrefl _)
 ·exact absurd (Nat.lt_of_lt_of_le (Heap.lt_size (I.pin p hp).1) (by rw[z];exact hb)) (Nat.lt_irrefl _)
structure Turn (P:Program)(w:World)(K:PySem.W.Frag)(tg:Expr)(J:It)(fp:List Addr)(it:Addr)(tn:Nat->Heap->Prop):Prop where
 mem:it∈fp
 obj:∀ i h,tn i h->∀ b∈fp,∃ o,h.get? b=some o/\∀ v,o.data≠.cell v
 keep:∀ i h h',tn i h->(∀ b∈fp,∀ o,h.get? b=some o->h'.get? b=some o)->tn i h'
 item:∀ (X:Cx),X.prog=P->X.w=w->X.K=K->X.calm=true->∀ (i:Nat) (pins:List (Addr × Obj)) (s:Shared) (σ:St) (H:Hp) (E:Value->Shared->Prop),Inv X pins σ H s->(∀ b∈fp,mN X pins H b)->tn i s.heap->J.go i H->
  wpAny (model P w) X.A (pyNext (.ref it)) (λ r s1=>∃ u,r=some u/\
   wpAny (model P w) X.A (letOwnedTupleGo tg (.ref it) u) (λ _ s2=>∃ x H',Inv X pins σ H' s2/\RelV x u/\J.Dd i H x H'/\tn (i+1) s2.heap/\∀ b∈fp,H' b=none) E s1) E s
 done:∀ (X:Cx),X.prog=P->X.w=w->X.K=K->X.calm=true->∀ (i:Nat) (pins:List (Addr × Obj)) (s:Shared) (σ:St) (H:Hp) (E:Value->Shared->Prop),Inv X pins σ H s->(∀ b∈fp,mN X pins H b)->tn i s.heap->J.stop i H->
  wpAny (model P w) X.A (pyNext (.ref it)) (λ r s1=>r=none/\Inv X pins σ H s1) E s
 self:∀ (A:Around) (i:Nat) (s:Shared) (Q:Value->Shared->Prop) (E:Value->Shared->Prop),tn i s.heap->Q (.ref it) s->wpAny (model P w) A (pyIter (.ref it)) Q E s
abbrev TI:=St->Hp->(It->Hp->Prop)->Prop
def OU (X:Cx)(pins:List (Addr × Obj)) (σ:St)(tg:Expr)(R:It->Hp->Prop)(Kv:Value)(s2:Shared):Prop:=
 ∃ (it:Addr) (fp:List Addr) (tn:Nat->Heap->Prop) (J:It) (H':Hp),Kv=.ref it/\Inv X pins σ H' s2/\Turn X.prog X.w X.K tg J fp it tn/\tn 0 s2.heap/\(∀ b∈fp,mN X pins H' b)/\R J H'
def PI (X:Cx)(tg iter:Expr)(wi:TI):Prop:=
 ∀ (pins:List (Addr × Obj)) (s:Shared) (σ:St) (H:Hp) (R:It->Hp->Prop),Inv X pins σ H s->wi σ H R->
  wpAny (model X.prog X.w) X.A (eval iter X.env) (λ v s1=>wpAny (model X.prog X.w) X.A (pyIter v) (OU X pins σ tg R) X.xe s1) X.xe s
theorem wG {M:Model}{A:Around}{E:Value->Shared->Prop}{s:Shared}{tg:Expr}{it:Addr}{u:Value}{o:Obj}{n:String}{vs:Array Value}{Q:Unit->Shared->Prop}(ho:s.heap.get? it=some o)(hc:o.cls=.type n)(hd:o.data=.fields vs)
    (hn:["enumerate","zip","dict_itemiterator","dict_reverseitemiterator","odict_iterator","itertools.zip_longest","itertools.pairwise"].contains n=false) (hQ:Q () s):wpAny M A (letOwnedTupleGo tg (.ref it) u) Q E s:=by
  unfold letOwnedTupleGo
  cases tg<;>first
    | exact wpAny_pure hQ
    | (cases u<;>first
        | exact wpAny_pure hQ
        | (refine wpAny_bind (wpAny_load ho ?_)
           rw[hc,hd]
           show wpAny M A (if (["enumerate","zip","dict_itemiterator","dict_reverseitemiterator","odict_iterator","itertools.zip_longest","itertools.pairwise"].contains n && vs[0]? == some (rawInt _))=true then _ else _) Q E s
           rw[if_neg (by intro h;rw[hn,Bool.false_and]at h;cases h)]
           exact wpAny_pure hQ))
def HB (K:PySem.W.Frag)(a:Addr):It:=
 ⟨λ i H=>∃ xs x,fJ K H a xs/\xs[i]? = some x,λ i H x H'=>H'=H/\∀ xs,fJ K H a xs->xs[i]? = some x,λ i H=>∃ xs,fJ K H a xs/\xs.length<=i⟩
def Kc (K:PySem.W.Frag)(a:Addr):It:=
 ⟨λ i H=>∃ xs x,gF K H a xs/\xs[i]? = some x,λ i H x H'=>H'=H/\∀ xs,gF K H a xs->xs[i]? = some x,λ i H=>∃ xs,gF K H a xs/\xs.length<=i⟩
def HA (lo:Int)(n:Nat):It:=⟨λ i _=>i < n,λ i H x H'=>H'=H/\x=.int (lo+i),λ i _=>n<=i⟩
theorem pG {P:Program}{w:World}{K:PySem.W.Frag}{tg:Expr}(a it:Addr):Turn P w K tg (HB K a) [it] it (λ i h=>h.IsListIter it a i) where
 mem:=by simp
 obj:=λ i h st b hb=>by
  have e:b=it:=by simpa using hb
  subst e
  obtain⟨o,e,c,d⟩:=st
  exact⟨o,e,λ v z=>by rw[d]at z;cases z⟩
 keep:=λ i h h' st k=>st.at λ o e=>k it (by simp) o e
 item:=by
  intro X hP hw hK hc i pins s σ H E I hf st hg
  subst hP hw hK
  obtain⟨xs,x,hq,hx⟩:=hg
  obtain⟨its,rv,p,hz⟩:=I.list hq
  obtain⟨u,hu,ru⟩:=rv.get hx
  obtain⟨f0,f1,f2,f3,f4,f5⟩:=hf it (by simp)
  refine wpAny_pyNext_list_item st p.isList (x:=u) (by simpa using hu) λ h' eK sb=>?_
  have I1:Inv X pins σ H { s with heap:=h' }:=I.turned (t':=s.toks) (λ b o hb e=>(sb.2 b hb).trans e) f0 f1 f3 f4 f5
  obtain⟨o,e,c,d⟩:=id eK
  exact⟨u,rfl,wG (s:={ s with heap:=h' }) e c d (by decide) ⟨x,H,I1,ru,⟨rfl,λ ys hy=>by rw[I.nX hy hq];exact hx⟩,eK,λ b hb=>(hf b hb).1⟩⟩
 done:=by
  intro X hP hw hK hc i pins s σ H E I hf st hg
  subst hP hw hK
  obtain⟨xs,hq,hx⟩:=hg
  obtain⟨its,rv,p,hz⟩:=I.list hq
  obtain⟨f0,f1,f2,f3,f4,f5⟩:=hf it (by simp)
  have hl:=rv.length
  exact wpAny_pyNext_list_end (I.ok.hd hc) st p.isList (by simp;omega) λ h' eb=>⟨rfl,I.turned (t':=s.toks) (λ b o hb e=>eb b o hb e) f0 f1 f3 f4 f5⟩
 self:=λ _ _ _ _ _ st h=>wpAny_pyIter_listiter st h
theorem uA {P:Program}{w:World}{K:PySem.W.Frag}{tg:Expr}(a it:Addr):Turn P w K tg (Kc K a) [it] it (λ i h=>h.IsTupleIter it a i) where
 mem:=by simp
 obj:=λ i h st b hb=>by
  have e:b=it:=by simpa using hb
  subst e
  obtain⟨o,e,c,d⟩:=st
  exact⟨o,e,λ v z=>by rw[d]at z;cases z⟩
 keep:=λ i h h' st k=>st.at λ o e=>k it (by simp) o e
 item:=by
  intro X hP hw hK hc i pins s σ H E I hf st hg
  subst hP hw hK
  obtain⟨xs,x,hq,hx⟩:=hg
  obtain⟨its,rv,p,hz⟩:=I.tuple hq
  obtain⟨u,hu,ru⟩:=rv.get hx
  obtain⟨f0,f1,f2,f3,f4,f5⟩:=hf it (by simp)
  refine wpAny_pyNext_tuple_item st (show s.heap.IsTuple a its.toArray from p) (x:=u) (by simpa using hu) λ h' eK sb=>?_
  have I1:Inv X pins σ H { s with heap:=h' }:=I.turned (t':=s.toks) (λ b o hb e=>(sb.2 b hb).trans e) f0 f1 f3 f4 f5
  obtain⟨o,e,c,d⟩:=id eK
  exact⟨u,rfl,wG (s:={ s with heap:=h' }) e c d (by decide) ⟨x,H,I1,ru,⟨rfl,λ ys hy=>by rw[I.lC hy hq];exact hx⟩,eK,λ b hb=>(hf b hb).1⟩⟩
 done:=by
  intro X hP hw hK hc i pins s σ H E I hf st hg
  subst hP hw hK
  obtain⟨xs,hq,hx⟩:=hg
  obtain⟨its,rv,p,hz⟩:=I.tuple hq
  obtain⟨f0,f1,f2,f3,f4,f5⟩:=hf it (by simp)
  have hl:=rv.length
  exact wpAny_pyNext_tuple_end (I.ok.hd hc) st (show s.heap.IsTuple a its.toArray from p) (by simp;omega) λ h' eb=>⟨rfl,I.turned (t':=s.toks) (λ b o hb e=>eb b o hb e) f0 f1 f3 f4 f5⟩
 self:=λ _ _ _ _ _ st h=>wpAny_pyIter_tupleiter st h
theorem uB {P:Program}{w:World}{K:PySem.W.Frag}{tg:Expr}(it:Addr)(lo:Int)(n:Nat):Turn P w K tg (HA lo n) [it] it (λ i h=>IsRangeIter h it (lo+(i:Nat) * 1) ((n:Int) - (i:Nat)) 1) where
 mem:=by simp
 obj:=λ i h st b hb=>by
  have e:b=it:=by simpa using hb
  subst e
  exact⟨_,st,λ v z=>by
   have z':Data.fields _=Data.cell v:=z
   cases z'⟩
 keep:=λ i h h' st k=>k it (by simp) _ st
 item:=by
  intro X hP hw hK hc i pins s σ H E I hf st hg
  subst hP hw hK
  obtain⟨f0,f1,f2,f3,f4,f5⟩:=hf it (by simp)
  have W:=Walks.range (prog:=X.prog) (w:=X.w) (I.ok.hd hc) it lo 1 n
  refine W.item i s _ _ hg st λ v h' tk hv eK kk=>?_
  obtain⟨t,rfl⟩:=hv
  have I1:Inv X pins σ H { s with heap:=h',toks:=tk }:=I.turned (λ b o hb e=>kk b o (by simpa using hb) e) f0 f1 f3 f4 f5
  refine⟨_,rfl,wG (s:={ s with heap:=h',toks:=tk }) (n:="range_iterator") eK rfl rfl (by decide) ⟨.int (lo+i),H,I1,⟨t,?_⟩,⟨rfl,rfl⟩,eK,λ b hb=>(hf b hb).1⟩⟩
  rw[Int.mul_one]
 done:=by
  intro X hP hw hK hc i pins s σ H E I hf st hg
  subst hP hw hK
  obtain⟨f0,f1,f2,f3,f4,f5⟩:=hf it (by simp)
  exact wpAny_pyNext_range_end (I.ok.hd hc) st (by have:n<=i:=hg;omega) λ h' eb=>⟨rfl,I.turned (t':=s.toks) (λ b o hb e=>eb b o hb e) f0 f1 f3 f4 f5⟩
 self:=λ _ _ _ _ _ st h=>wpAny_pyIter_rangeiter st h
end L2
namespace L2
open PySem PySem.Spec PyProof.Rows
section
variable {X:Cx}{tg:Expr}
def Jj (K:PySem.W.Frag)(tl:TE):TI:=λ σ H R=>tl σ H λ x H1=>∃ a,x=.ref a/\(∃ xs,fJ K H1 a xs)/\R (HB K a) H1
theorem BK {l:Expr}{tl:TE}(hl:PE X l tl):PI X tg l (Jj X.K tl):=by
 intro pins s σ H R I h
 refine bO (hl pins s σ H _ I h) λ v s1 ⟨x,H1,I1,r1,q1⟩=>?_
 obtain⟨a,e,⟨xs,hq⟩,q⟩:=q1
 subst e
 cases r1
 obtain⟨its,rv,p,hz⟩:=I1.list hq
 refine wpAny_pyIter_list p.isList ?_
 refine⟨s1.heap.objs.size,[s1.heap.objs.size],_,_,H1,rfl,I1.kept (t':=s1.toks) λ b o e=>Heap.get?_push_of_some _ e,pG a _,⟨_,Heap.get?_push_size _ rfl,rfl,rfl⟩,λ b hb=>?_,q⟩
 have e:b=s1.heap.objs.size:=by simpa using hb
 subst e
 exact I1.vf (Nat.le_refl _) (I1.bN.fresh (Nat.le_refl _))
theorem yT {pins:List (Addr × Obj)}{σ:St}{H:Hp}{s:Shared}{R:It->Hp->Prop}{E:Value->Shared->Prop}{lo hi:Int}{t u v:Tok}{tk:Nat}(I:Inv X pins σ H s)(h1:-(2 ^ 62)<=lo) (h2:lo < 2 ^ 62)(h3:-(2 ^ 62)<=hi) (h4:hi < 2 ^ 62)
  (q:R (HA lo (hi - lo).toNat) H):wpAny (model X.prog X.w) X.A (pyIter (.ref s.heap.objs.size)) (OU X pins σ tg R) E { s with heap:=s.heap.push { cls:=.type "range",data:=.fields #[.int lo t,.int hi u,.int 1 v] },toks:=tk }:=by
 refine wpAny_pyIter_range (IsRange.new ..) (small_one h1 h2 h3 h4) ?_
 have I1:Inv X pins σ H { s with heap:=s.heap.push { cls:=.type "range",data:=.fields #[.int lo t,.int hi u,.int 1 v] },toks:=tk }:=I.kept λ b o e=>Heap.get?_push_of_some _ e
 refine⟨(s.heap.push { cls:=.type "range",data:=.fields #[.int lo t,.int hi u,.int 1 v] }).objs.size,[(s.heap.push { cls:=.type "range",data:=.fields #[.int lo t,.int hi u,.int 1 v] }).objs.size],_,_,H,rfl,
  I1.kept (t':=tk) λ b o e=>Heap.get?_push_of_some _ e,uB _ lo (hi - lo).toNat,?_,λ b hb=>?_,q⟩
 ·have e1:lo+((0:Nat):Int) * 1=lo:=by simp
  have e2:(((hi - lo).toNat:Nat):Int) - ((0:Nat):Int)=Builtin.Range.rangeSize lo hi 1:=by rw[rangeSize_one];split<;>omega
  show IsRangeIter _ _ (lo+((0:Nat):Int) * 1) ((((hi - lo).toNat:Nat):Int) - ((0:Nat):Int)) 1
  rw[e1,e2]
  exact Heap.get?_push_size _ rfl
 ·have e:b=(s.heap.push { cls:=.type "range",data:=.fields #[.int lo t,.int hi u,.int 1 v] }).objs.size:=by simpa using hb
  subst e
  exact I1.vf (Nat.le_refl _) (I1.bN.fresh (Nat.le_refl _))
def Ji (ta:TA):TI:=λ σ H R=>ta σ H λ vs H1=>∃ j:Int,vs=[.int j]/\-(2 ^ 62)<=j/\j < 2 ^ 62/\R (HA 0 j.toNat) H1
theorem xB {a:Expr}{ta:TA}{p pos:Pos}(hg:Gl X "range")(hm:X.mg "range"=none)(ha:PA X [a] ta)(hs:starEach [a] X.env=[(false,eval a X.env)]:=by rfl):PI X tg (.Call (.Name "range" p) [a] [] pos) (Ji ta):=by
 intro pins s σ H R I h
 refine Call_ (n4 I hg hm boot_range (PyProof.Rows.callWith_type1 (bO (ha pos pins s σ H _ I h) λ us s1 ⟨vs,H1,I1,r1,q1⟩=>?_) hs rfl))
 obtain⟨j,e,q1,q2,q⟩:=q1
 subst e
 cases r1 with
 | cons r rr=>
  cases rr
  obtain⟨t,rfl⟩:=r
  exact call_range_1 (yT I1 (by omega) (by omega) q1 q2 (by simpa using q))
def Li (wi:TI)(g:TG)(tb:TS):TS:=λ D σ H=>wi σ H λ J H1=>∃ W:Nat->Nat->St->Hp->Prop,(∃ m,W 0 m σ H1)/\∀ i m σ H,W i m σ H->
 (J.stop i H/\D.nx σ H)∨(J.go i H/\∃ N:St->Hp->Prop,(∀ σ' H',N σ' H'->∃ m',m' < m/\W (i+1) m' σ' H')/\∀ x H',J.Dd i H x H'->g x σ H' λ σ2 H2=>tb { D with nx:=N,ct:=N,bk:=D.nx } σ2 H2)
def nJ (fp:List Addr)(h:Heap):List (Addr × Obj):=fp.filterMap λ b=>(h.get? b).map λ o=>(b,o)
theorem ik {fp:List Addr}{h:Heap}{b:Addr}{o:Obj}(hb:b∈fp)(e:h.get? b=some o):(b,o)∈nJ fp h:=List.mem_filterMap.mpr ⟨b,hb,by rw[e];rfl⟩
theorem xG {fp:List Addr}{h:Heap}{p:Addr × Obj}(hp:p∈nJ fp h):p.1∈fp/\h.get? p.1=some p.2:=by
 obtain⟨b,hb,e⟩:=List.mem_filterMap.mp hp
 cases q:h.get? b with
 | none=>rw[q]at e;cases e
 | some o=>
  rw[q]at e
  have e':(b,o)=p:=Option.some.inj e
  subst e'
  exact⟨hb,q⟩
theorem Inv.pinned {pins:List (Addr × Obj)}{σ:St}{H:Hp}{s:Shared}{fp:List Addr}(I:Inv X pins σ H s)(hf:∀ b∈fp,mN X pins H b)(ho:∀ b∈fp,∃ o,s.heap.get? b=some o/\∀ v,o.data≠.cell v):Inv X (pins++nJ fp s.heap) σ H s:=
 I.vT λ p hp=>(List.mem_append.mp hp).elim (λ z=>I.pin p (List.mem_append_right _ z)) λ z=>by
  obtain⟨hb,e⟩:=xG z
  obtain⟨f0,f1,f2,_⟩:=hf p.1 hb
  obtain⟨o,e',d⟩:=ho p.1 hb
  rw[e]at e';cases e'
  exact⟨e,f0,f1,f2,d⟩
theorem Inv.ky {pins pl:List (Addr × Obj)}{σ:St}{H:Hp}{s:Shared}(I:Inv X (pins++pl) σ H s):Inv X pins σ H s:=I.vT λ p hp=>I.pin p (List.mem_append_right _ (List.mem_append_left _ hp))
theorem EI {iter:Expr}{body:List Stmt}{wi:TI}{g:TG}{tb:TS}{pos:Pos}(hp:PassesOwn (model X.prog X.w) X.A X.env X.xe) (hc:X.calm=true)(hi:PI X tg iter wi)(hg:PG X tg g)(hb:ke X body tb)
  (hs:∀ x,foldedSetIterable iter X.env x=pure x:=by intro _;rfl):PS X (.For tg iter body [] pos) (Li wi g tb):=by
 intro pins s σ H D I h
 refine wpAny_For (bO (hi pins s σ H _ I h) λ v s1 h1=>bO h1 λ Kv s2 h2=>?_) hs
 obtain⟨it,fp,tn,J,H2,e,I2,T,HS,f2,W,⟨m0,w0⟩,turn⟩:=h2
 subst e
 have Ek:∀ {H':Hp},(∀ b∈fp,H' b=none)->∀ b∈fp,mN X pins H' b:=λ hn b hb=>⟨hn b hb,(f2 b hb).2⟩
 refine codeAny_forLoop_any (λ n s'=>∃ i σ' H',Inv X pins σ' H' s'/\tn i s'.heap/\(∀ b∈fp,H' b=none)/\W i n σ' H') ?_ m0 ⟨0,σ,H2,I2,HS,λ b hb=>(f2 b hb).1,w0⟩
 rintro n s3 ⟨i,σ3,H3,I3,Dj,OC,w3⟩
 rcases turn i n σ3 H3 w3 with⟨stop,qn⟩|⟨go,N,hN,step⟩
 ·refine wpAny_passesOwn hp (bO (T.done X rfl rfl rfl hc i pins s3 σ3 H3 X.xe I3 (Ek OC) Dj stop) λ r s4 ⟨hr,I4⟩=>?_)
  subst hr
  exact wpAny_execs_nil ⟨σ3,H3,I4,qn⟩
 ·refine wpAny_passesOwn hp (bO (T.item X rfl rfl rfl hc i pins s3 σ3 H3 X.xe I3 (Ek OC) Dj go) λ r s4 ⟨u,hr,h4⟩=>?_)
  subst hr
  refine wpAny_passesOwn hp (bO h4 λ _ s5 ⟨x,H5,I5,r5,y5,Hi,KH⟩=>?_)
  have I5':=I5.pinned (Ek KH) (T.obj _ _ Hi)
  refine wpAny_passesOwn hp (bO (hg _ s5 σ3 H5 x u _ I5' r5 (step x H5 y5)) λ _ s6 ⟨σ6,H6,I6,q6⟩=>?_)
  refine wpAny_passesOwn hp (bO (hb _ s6 σ6 H6 _ I6 q6) λ f s7 q7=>?_)
  have again:∀ {σ7:St}{H7:Hp},Inv X (pins++nJ fp s5.heap) σ7 H7 s7->N σ7 H7->∃ m,m < n/\∃ i σ' H',Inv X pins σ' H' s7/\tn i s7.heap/\(∀ b∈fp,H' b=none)/\W i m σ' H':=λ {σ7 H7} I7 n7=>by
   obtain⟨m',hm,w7⟩:=hN σ7 H7 n7
   refine⟨m',hm,i+1,σ7,H7,I7.ky,T.keep _ _ _ Hi λ b hb o e=>(I7.pin (b,o) (List.mem_append_right _ (List.mem_append_right _ (ik hb e)))).1,λ b hb=>?_,w7⟩
   obtain⟨o,e,d⟩:=T.obj _ _ Hi b hb
   exact(I7.pin (b,o) (List.mem_append_right _ (List.mem_append_right _ (ik hb e)))).2.1
  cases f with
  | next=>obtain⟨σ7,H7,I7,n7⟩:=q7;exact again I7 n7
  | cont=>obtain⟨σ7,H7,I7,n7⟩:=q7;exact again I7 n7
  | brk=>obtain⟨σ7,H7,I7,q7⟩:=q7;exact⟨σ7,H7,I7.ky,q7⟩
  | ret v=>obtain⟨x7,σ7,H7,I7,r7,q7⟩:=q7;exact⟨x7,σ7,H7,I7.ky,r7,q7⟩
end
end L2
namespace L2
open PySem PySem.Spec PyProof.Rows
abbrev R2:=V->V->Hp->VK->Prop
def e_ (X:Cx)(f:Value->Value->Sem Value)(r:R2):Prop:=
 ∀ (pins:List (Addr × Obj)) (s:Shared) (σ:St) (H:Hp) (x y:V) (v u:Value) (Q:VK),Inv X pins σ H s->RelV x v->RelV y u->r x y H Q->
  wpAny (model X.prog X.w) X.A (f v u) (EP X pins σ Q) X.xe s
def J_ (X:Cx)(f:Value->Sem Value)(r:V->Hp->VK->Prop):Prop:=
 ∀ (pins:List (Addr × Obj)) (s:Shared) (σ:St) (H:Hp) (x:V) (v:Value) (Q:VK),Inv X pins σ H s->RelV x v->r x H Q->
  wpAny (model X.prog X.w) X.A (f v) (EP X pins σ Q) X.xe s
def cg (X:Cx)(f:Value)(r:List V->Hp->VK->Prop):Prop:=
 ∀ (pins:List (Addr × Obj)) (s:Shared) (σ:St) (H:Hp) (xs:List V) (us:List Value) (Q:VK),Inv X pins σ H s->Vals xs us->r xs H Q->
  wpAny (model X.prog X.w) X.A (call f us) (EP X pins σ Q) X.xe s
def NA (X:Cx)(r:V->Hp->(Bool->Hp->Prop)->Prop):Prop:=
 ∀ (pins:List (Addr × Obj)) (s:Shared) (σ:St) (H:Hp) (x:V) (v:Value) (Q:Bool->Hp->Prop),Inv X pins σ H s->RelV x v->r x H Q->
  wpAny (model X.prog X.w) X.A (truthy v) (TP X pins σ Q) X.xe s
def HH (r:R2)(ta tb:TE):TE:=λ σ H Q=>ta σ H λ x H1=>tb σ H1 λ y H2=>r x y H2 Q
def NL (r:V->Hp->VK->Prop)(ta:TE):TE:=λ σ H Q=>ta σ H λ x H1=>r x H1 Q
def rI (C:Int->Int->Prop)(g:Int->Int->V):R2:=λ x y H Q=>∃ i j,x=.int i/\y=.int j/\C i j/\Q (g i j) H
def Dp (g:Int->Int->V):R2:=λ x y H Q=>∃ i j,x=.int i/\y=.int j/\Q (g i j) H
def rU (g:Int->V):V->Hp->VK->Prop:=λ x H Q=>∃ i,x=.int i/\Q (g i) H
section
variable {X:Cx}{a b c:Expr}{ta tb tc:TE}{pos:Pos}
theorem G_ (ha:PE X a ta)(hb:PE X b tb){pins:List (Addr × Obj)}{s:Shared}{σ:St}{H:Hp}{R:V->V->Hp->Prop}(I:Inv X pins σ H s)
  (h:ta σ H λ x H1=>tb σ H1 λ y H2=>R x y H2) {Q:Value->Shared->Prop}{f:Value->Value->Sem Value}
  (hf:∀ v u s2 x y H2,Inv X pins σ H2 s2->RelV x v->RelV y u->R x y H2->wpAny (model X.prog X.w) X.A (f v u) Q X.xe s2) :
  wpAny (model X.prog X.w) X.A (eval a X.env) (λ v s₁=>wpAny (model X.prog X.w) X.A (eval b X.env) (λ u s₂=>wpAny (model X.prog X.w) X.A (f v u) Q X.xe s₂) X.xe s₁) X.xe s:=by
 refine bO (ha pins s σ H _ I h) λ v s1 ⟨x,H1,I1,r1,q1⟩=>?_
 refine bO (hb pins s1 σ H1 _ I1 q1) λ u s2 ⟨y,H2,I2,r2,q2⟩=>?_
 exact hf v u s2 x y H2 I2 r1 r2 q2
theorem Ik {op:Operator}{r:R2}(ho:e_ X (binaryOp op) r) (ha:PE X a ta)(hb:PE X b tb):PE X (.BinOp a op b pos) (HH r ta tb):=by
 intro pins s σ H Q I h
 exact wpAny_BinOp (G_ ha hb I h λ v u s2 x y H2 I2 rx ry q=>ho pins s2 σ H2 x y v u Q I2 rx ry q)
theorem Ii {op:UnaryOp}{r:V->Hp->VK->Prop}(ho:J_ X (unaryOp op) r) (ha:PE X a ta):PE X (.UnaryOp op a pos) (NL r ta):=by
 intro pins s σ H Q I h
 exact UnaryOp_ (bO (ha pins s σ H _ I h) λ v s1 ⟨x,H1,I1,r1,q1⟩=>ho pins s1 σ H1 x v Q I1 r1 q1)
theorem Kq {f:Value->Value->Sem Value}{C:Int->Int->Prop}{g:Int->Int->Int}
  (rule:∀ (i j:Int) (t u:Tok) (s:Shared) (Q:Value->Shared->Prop) (E:Value->Shared->Prop),C i j->Q (.int (g i j) s.toks) { s with toks:=s.toks+1 }->wpAny (model X.prog X.w) X.A (f (.int i t) (.int j u)) Q E s) :
  e_ X f (rI C λ i j=>.int (g i j)):=by
 intro pins s σ H x y v u Q I rx ry h
 obtain⟨i,j,rfl,rfl,hc,q⟩:=h
 obtain⟨t,rfl⟩:=rx
 obtain⟨t',rfl⟩:=ry
 exact rule i j t t' s _ _ hc ⟨.int (g i j),H,I.tok _,⟨_,rfl⟩,q⟩
theorem ID {f:Value->Value->Sem Value}{g:Int->Int->Int}
  (rule:∀ (i j:Int) (t u:Tok) (s:Shared) (Q:Value->Shared->Prop) (E:Value->Shared->Prop),Q (.int (g i j) s.toks) { s with toks:=s.toks+1 }->wpAny (model X.prog X.w) X.A (f (.int i t) (.int j u)) Q E s) :
  e_ X f (Dp λ i j=>.int (g i j)):=by
 intro pins s σ H x y v u Q I rx ry h
 obtain⟨i,j,rfl,rfl,q⟩:=h
 obtain⟨t,rfl⟩:=rx
 obtain⟨t',rfl⟩:=ry
 exact rule i j t t' s _ _ ⟨.int (g i j),H,I.tok _,⟨_,rfl⟩,q⟩
theorem B0 {f:Value->Value->Sem Value}{g:Int->Int->Bool}
  (rule:∀ (i j:Int) (t u:Tok) (s:Shared) (Q:Value->Shared->Prop) (E:Value->Shared->Prop),Q (.bool (g i j)) s->wpAny (model X.prog X.w) X.A (f (.int i t) (.int j u)) Q E s) :
  e_ X f (Dp λ i j=>.bl (g i j)):=by
 intro pins s σ H x y v u Q I rx ry h
 obtain⟨i,j,rfl,rfl,q⟩:=h
 obtain⟨t,rfl⟩:=rx
 obtain⟨t',rfl⟩:=ry
 exact rule i j t t' s _ _ ⟨.bl (g i j),H,I,rfl,q⟩
def Dc (i j:Int):Prop:=0<=j/\j<=1000000/\i.natAbs < 2 ^ 64
theorem Fg:e_ X (binaryOp .Add) (Dp λ i j=>.int (i+j)):=ID λ _ _ _ _ _ _ _ q=>add_int q
theorem E8:e_ X (binaryOp .Sub) (Dp λ i j=>.int (i - j)):=ID λ _ _ _ _ _ _ _ q=>sub_int q
theorem BW:e_ X (binaryOp .Mod) (rI (λ _ j=>j≠0) λ i j=>.int (i.fmod j)):=Kq λ _ _ _ _ _ _ _ hc q=>mod_int' hc q
theorem Fb:e_ X (binaryOp .Pow) (rI Dc λ i j=>.int (i ^ j.toNat)):=Kq λ _ _ _ _ _ _ _ hc q=>pow_int_small hc.1 hc.2.1 hc.2.2 q
theorem O8 {f:Value->Sem Value}{g:Int->Int}
  (rule:∀ (i:Int) (t:Tok) (s:Shared) (Q:Value->Shared->Prop) (E:Value->Shared->Prop),Q (.int (g i) s.toks) { s with toks:=s.toks+1 }->wpAny (model X.prog X.w) X.A (f (.int i t)) Q E s) :
  J_ X f (rU λ i=>.int (g i)):=by
 intro pins s σ H x v Q I rx h
 obtain⟨i,rfl,q⟩:=h
 obtain⟨t,rfl⟩:=rx
 exact rule i t s _ _ ⟨.int (g i),H,I.tok _,⟨_,rfl⟩,q⟩
theorem DY:J_ X (unaryOp .USub) (rU λ i=>.int (-i)):=O8 λ _ _ _ _ _ q=>neg_int q
end
def Es:V->V->Bool
 | .aY,.aY=>true|.aY,.int _=>true|.int _,.aY=>true|.aY,.bl _=>true|.bl _,.aY=>true|.aY,.str _=>true|.str _,.aY=>true
 | .int _,.int _=>true|.bl _,.bl _=>true|.str _,.str _=>true|.vn _,.vn _=>true
 | .int _,.str _=>true|.str _,.int _=>true|.bl _,.str _=>true|.str _,.bl _=>true
 | _,_=>false
def Pk:R2:=λ x y H Q=>Es x y=true/\Q (.bl (decide (x=y))) H
def Pj:R2:=λ x y H Q=>Es x y=true/\Q (.bl (!decide (x=y))) H
theorem wO {i j:Int}:decide (V.int i=V.int j)=(i == j):=by
 rw[Bool.eq_iff_iff]
 simp
theorem AG {i j:Bool}:decide (V.bl i=V.bl j)=(i == j):=by
 rw[Bool.eq_iff_iff]
 simp
theorem wN {i j:Str}:decide (V.str i=V.str j)=(i == j):=by
 rw[Bool.eq_iff_iff]
 simp
theorem wQ {i j:Array UInt8}:decide (V.vn i=V.vn j)=(i.toList == j.toList):=by
 rw[Bool.eq_iff_iff]
 cases i
 cases j
 simp
section
variable {X:Cx}{a b c:Expr}{ta tb tc:TE}{pos:Pos}
theorem a7 {pins:List (Addr × Obj)}{σ:St}{H:Hp}{s:Shared}{Q:VK}{k k':Bool}(I:Inv X pins σ H s)(q:Q (.bl k) H) (e:k=k'):EP X pins σ Q (.bool k') s:=by
 subst e
 exact⟨.bl k,H,I,rfl,q⟩
theorem Iz:e_ X (compareOp .Eq) Pk:=by
 intro pins s σ H x y v u Q I rx ry h
 obtain⟨hs,q⟩:=h
 cases x with
 | aY=>
  cases rx
  cases y with
  | aY=>cases ry;exact PySem.EqNone.eq_none_none (a7 I q (by simp))
  | bl j=>cases ry;exact PySem.EqNone.eq_none_bool (a7 I q (by simp))
  | int j=>obtain⟨t',rfl⟩:=ry;exact PySem.EqNone.eq_none_int (a7 I q (by simp))
  | str j=>obtain⟨t',rfl⟩:=ry;exact PySem.EqNone.eq_none_str (a7 I q (by simp))
  | _=>exact absurd (show false=true from hs) Bool.false_ne_true
 | bl i=>
  cases rx
  cases y with
  | aY=>cases ry;exact PySem.EqNone.eq_bool_none (a7 I q (by simp))
  | bl j=>cases ry;exact eq_bool (a7 I q AG)
  | str j=>obtain⟨t',rfl⟩:=ry;exact PySem.EqMixed.eq_bool_str (a7 I q (by simp))
  | _=>exact absurd (show false=true from hs) Bool.false_ne_true
 | int i=>
  obtain⟨t,rfl⟩:=rx
  cases y with
  | aY=>cases ry;exact PySem.EqNone.eq_int_none (a7 I q (by simp))
  | int j=>obtain⟨t',rfl⟩:=ry;exact eq_int (a7 I q wO)
  | str j=>obtain⟨t',rfl⟩:=ry;exact PySem.EqMixed.eq_int_str (a7 I q (by simp))
  | _=>exact absurd (show false=true from hs) Bool.false_ne_true
 | str i=>
  obtain⟨t,rfl⟩:=rx
  cases y with
  | aY=>cases ry;exact PySem.EqNone.eq_str_none (a7 I q (by simp))
  | bl j=>cases ry;exact PySem.EqMixed.eq_str_bool (a7 I q (by simp))
  | int j=>obtain⟨t',rfl⟩:=ry;exact PySem.EqMixed.eq_str_int (a7 I q (by simp))
  | str j=>obtain⟨t',rfl⟩:=ry;exact eq_str (a7 I q wN)
  | _=>exact absurd (show false=true from hs) Bool.false_ne_true
 | vn i=>
  obtain⟨t,rfl⟩:=rx
  cases y with
  | vn j=>obtain⟨t',rfl⟩:=ry;exact PySem.W.eq_bytes (a7 I q wQ)
  | _=>exact absurd (show false=true from hs) Bool.false_ne_true
 | _=>cases y<;>exact absurd (show false=true from hs) Bool.false_ne_true
theorem Ir:e_ X (compareOp .NotEq) Pj:=by
 intro pins s σ H x y v u Q I rx ry h
 obtain⟨hs,q⟩:=h
 cases x with
 | aY=>
  cases rx
  cases y with
  | aY=>cases ry;exact PySem.EqNone.ne_none_none (a7 I q (by simp))
  | bl j=>cases ry;exact PySem.EqNone.ne_none_bool (a7 I q (by simp))
  | int j=>obtain⟨t',rfl⟩:=ry;exact PySem.EqNone.ne_none_int (a7 I q (by simp))
  | str j=>obtain⟨t',rfl⟩:=ry;exact PySem.EqNone.ne_none_str (a7 I q (by simp))
  | _=>exact absurd (show false=true from hs) Bool.false_ne_true
 | bl i=>
  cases rx
  cases y with
  | aY=>cases ry;exact PySem.EqNone.ne_bool_none (a7 I q (by simp))
  | bl j=>cases ry;exact ne_bool (a7 I q (congrArg not AG))
  | str j=>obtain⟨t',rfl⟩:=ry;exact PySem.EqMixed.ne_bool_str (a7 I q (by simp))
  | _=>exact absurd (show false=true from hs) Bool.false_ne_true
 | int i=>
  obtain⟨t,rfl⟩:=rx
  cases y with
  | aY=>cases ry;exact PySem.EqNone.ne_int_none (a7 I q (by simp))
  | int j=>obtain⟨t',rfl⟩:=ry;exact ne_int (a7 I q (congrArg not wO))
  | str j=>obtain⟨t',rfl⟩:=ry;exact PySem.EqMixed.ne_int_str (a7 I q (by simp))
  | _=>exact absurd (show false=true from hs) Bool.false_ne_true
 | str i=>
  obtain⟨t,rfl⟩:=rx
  cases y with
  | aY=>cases ry;exact PySem.EqNone.ne_str_none (a7 I q (by simp))
  | bl j=>cases ry;exact PySem.EqMixed.ne_str_bool (a7 I q (by simp))
  | int j=>obtain⟨t',rfl⟩:=ry;exact PySem.EqMixed.ne_str_int (a7 I q (by simp))
  | str j=>obtain⟨t',rfl⟩:=ry;exact ne_str (a7 I q (congrArg not wN))
  | _=>exact absurd (show false=true from hs) Bool.false_ne_true
 | vn i=>
  obtain⟨t,rfl⟩:=rx
  cases y with
  | vn j=>obtain⟨t',rfl⟩:=ry;exact PySem.W.ne_bytes (a7 I q (congrArg not wQ))
  | _=>exact absurd (show false=true from hs) Bool.false_ne_true
 | _=>cases y<;>exact absurd (show false=true from hs) Bool.false_ne_true
theorem Iu:e_ X (compareOp .Lt) (Dp λ i j=>.bl (decide (i < j))):=B0 λ _ _ _ _ _ _ _ q=>lt_int q
theorem Iv:e_ X (compareOp .LtE) (Dp λ i j=>.bl (decide (i<=j))):=B0 λ _ _ _ _ _ _ _ q=>le_int q
theorem Iw:e_ X (compareOp .Gt) (Dp λ i j=>.bl (decide (j < i))):=B0 λ _ _ _ _ _ _ _ q=>gt_int q
theorem Iy:e_ X (compareOp .GtE) (Dp λ i j=>.bl (decide (j<=i))):=B0 λ _ _ _ _ _ _ _ q=>ge_int q
theorem xD:e_ X (compareOp .Lt) (λ x y H Q=>∃ i j,x=.str i/\y=.str j/\Q (.bl (decide (i.cps.toList < j.cps.toList))) H):=by
 intro pins s σ H x y v u Q I rx ry h
 obtain⟨i,j,rfl,rfl,q⟩:=h
 obtain⟨t,rfl⟩:=rx
 obtain⟨t',rfl⟩:=ry
 exact lt_str (a7 I q rfl)
theorem BR {op:CmpOp}{r:R2}(ho:e_ X (compareOp op) r) (ha:PE X a ta)(hb:PE X b tb)(hm:behindInMarks op b=false):PE X (.Compare a [op] [b] pos) (HH r ta tb):=by
 intro pins s σ H Q I h
 exact wpAny_Compare1 (G_ ha hb I h λ v u s2 x y H2 I2 rx ry q=>ho pins s2 σ H2 x y v u Q I2 rx ry q) hm
def Dh (t:TE):TT:=λ σ H Q=>t σ H λ x H'=>∃ k,x=.bl k/\Q k H'
theorem Bw {op:CmpOp}{r:R2}(ho:e_ X (compareOp op) r) (ha:PE X a ta)(hb:PE X b tb)(hm:behindInMarks op b=false):PT X (.Compare a [op] [b] pos) (Dh (HH r ta tb)):=by
 intro pins s σ H Q I h
 refine wpAny_isTrue_Compare1 (bO (ha pins s σ H _ I h) λ v s1 ⟨x,H1,I1,r1,q1⟩=>bO (hb pins s1 σ H1 _ I1 q1) λ u s2 ⟨y,H2,I2,r2,q2⟩=>
  bO (ho pins s2 σ H2 x y v u _ I2 r1 r2 q2) λ c s3 ⟨z,H3,I3,r3,k,e,q3⟩=>?_) hm
 subst e
 cases r3
 exact wpAny_truthy_bool ⟨H3,I3,q3⟩
def uE (r r':R2)(ta tb tc:TE):TE:=λ σ H Q=>ta σ H λ x H1=>tb σ H1 λ y H2=>r x y H2 λ z H3=>∃ k,z=.bl k/\
 (if k=true then tc σ H3 λ w' H4=>r' y w' H4 Q else Q (.bl false) H3)
theorem zf {op rT:CmpOp}{r r':R2}(ho:e_ X (compareOp op) r) (cz:e_ X (compareOp rT) r') (ha:PE X a ta)(hb:PE X b tb)(hc:PE X c tc)
  (hm:lastMarks [op,rT] [b,c]=false:=by with_unfolding_all rfl):PE X (.Compare a [op,rT] [b,c] pos) (uE r r' ta tb tc):=by
 intro pins s σ H Q I h
 refine Compare_chain (bO (ha pins s σ H _ I h) λ v s1 ⟨x,H1,I1,r1,q1⟩=>chain_link (bO (hb pins s1 σ H1 _ I1 q1) λ u s2 ⟨y,H2,I2,r2,q2⟩=>
  bO (ho pins s2 σ H2 x y v u _ I2 r1 r2 q2) λ d s3 ⟨z,H3,I3,r3,k,e,q3⟩=>?_)) hm
 subst e
 cases r3
 refine wpAny_truthy_bool ?_
 cases k with
 | false=>exact ite_ff ⟨.bl false,H3,I3,rfl,q3⟩
 | true=>exact ite_tt (chain_last (bO (hc pins s3 σ H3 _ I3 q3) λ w' s4 ⟨z',H4,I4,r4,q4⟩=>cz pins s4 σ H4 y z' u w' Q I4 r2 r4 q4))
theorem yV {op rT:CmpOp}{r r':R2}(ho:e_ X (compareOp op) r) (cz:e_ X (compareOp rT) r') (ha:PE X a ta)(hb:PE X b tb)(hc:PE X c tc)
  (hm:lastMarks [op,rT] [b,c]=false:=by with_unfolding_all rfl):PT X (.Compare a [op,rT] [b,c] pos) (Dh (uE r r' ta tb tc)):=by
 intro pins s σ H Q I h
 refine isTrue_chain (bO (ha pins s σ H _ I h) λ v s1 ⟨x,H1,I1,r1,q1⟩=>test_link (bO (hb pins s1 σ H1 _ I1 q1) λ u s2 ⟨y,H2,I2,r2,q2⟩=>
  bO (ho pins s2 σ H2 x y v u _ I2 r1 r2 q2) λ d s3 ⟨z,H3,I3,r3,k,e,q3⟩=>?_)) hm
 subst e
 cases r3
 refine wpAny_truthy_bool ?_
 cases k with
 | false=>
  obtain⟨k',e',q'⟩:=q3
  cases e'
  exact ite_ff ⟨H3,I3,q'⟩
 | true=>
  refine ite_tt (test_last (bO (hc pins s3 σ H3 _ I3 q3) λ w' s4 ⟨z',H4,I4,r4,q4⟩=>bO (cz pins s4 σ H4 y z' u w' _ I4 r2 r4 q4) λ d' s5 ⟨z2,H5,I5,r5,k2,e2,q5⟩=>?_))
  subst e2
  cases r5
  exact wpAny_truthy_bool ⟨H5,I5,q5⟩
def Hc (K:PySem.W.Frag)(x:V)(H:Hp)(k:Bool):Prop:=
 match x with
 | .aY=>k=false
 | .bl b=>k=b
 | .int i=>k=(i != 0)
 | .str y=>y.length<=sizeLine/\k=((y.length:Int) != 0)
 | .vn y=>y.size<=sizeLine/\k=((y.size:Int) != 0)
 | .ref p=>(∃ xs,fJ K H p xs/\k=!xs.isEmpty)∨(∃ xs,gF K H p xs/\k=!xs.isEmpty)∨∃ kvs,H p=some (.dK kvs)/\k=!kvs.isEmpty
 | _=>False
theorem uZ {κ:Type}{kvs:List (κ × V)}{vs:List (κ × Value)}(r:KV kvs vs):(!vs.isEmpty)=!kvs.isEmpty:=by
 cases r<;>rfl
theorem oa {xs:List V}{its:List Value}(r:Vals xs its):(!its.toArray.isEmpty)=!xs.isEmpty:=by
 cases r<;>simp
theorem jV:(sizeLine:Nat) < 2 ^ 63:=by rw[sizeLine_eq];decide
theorem Ed:NA X (λ x H Q=>∃ k,Hc X.K x H k/\Q k H):=by
 intro pins s σ H x v Q I rx h
 obtain⟨k,e,q⟩:=h
 have hl:=jV
 have hs:sizeLine=16777216:=sizeLine_eq
 cases x with
 | aY=>
  cases rx
  have e':k=false:=e
  subst e'
  exact truthy_none ⟨H,I,q⟩
 | bl b=>
  cases rx
  have e':k=b:=e
  subst e'
  exact wpAny_truthy_bool ⟨H,I,q⟩
 | int i=>
  obtain⟨t,rfl⟩:=rx
  have e':k=(i != 0):=e
  subst e'
  exact PySem.P.truthy_int ⟨H,I,q⟩
 | str y=>
  obtain⟨t,rfl⟩:=rx
  obtain⟨hy,e'⟩:y.length<=sizeLine/\k=((y.length:Int) != 0):=e
  subst e'
  exact PySem.P.truthy_str (by omega) ⟨H,I.tok _,q⟩
 | vn y=>
  obtain⟨t,rfl⟩:=rx
  obtain⟨hy,e'⟩:y.size<=sizeLine/\k=((y.size:Int) != 0):=e
  subst e'
  exact PySem.W.truthy_bytes (by omega) ⟨H,I.tok _,q⟩
 | ref p=>
  cases rx
  have e':(∃ xs,fJ X.K H p xs/\k=!xs.isEmpty)∨(∃ xs,gF X.K H p xs/\k=!xs.isEmpty)∨∃ kvs,H p=some (.dK kvs)/\k=!kvs.isEmpty:=e
  rcases e' with⟨xs,hx,e'⟩|⟨xs,hx,e'⟩|⟨kvs,hx,e'⟩
  ·subst e'
   obtain⟨its,r,pl,hz⟩:=I.list hx
   have hlen:=r.length
   exact wpAny_truthy_list pl.isList (by simp only[List.size_toArray];omega) ⟨H,I.tok _,by rw[oa r];exact q⟩
  ·subst e'
   obtain⟨its,r,pl,hz⟩:=I.tuple hx
   have hlen:=r.length
   exact truthy_tuple pl (by simp only[List.size_toArray];omega) ⟨H,I.tok _,by rw[oa r];exact q⟩
  ·subst e'
   obtain⟨hz,hS,vs,r,m⟩:kvs.length<=sizeLine/\(p == sysModules)=false/\∃ vs,KV kvs vs/\s.heap.DictOf (bQ X.prog X.w) p vs:=I.bN p _ hx
   have hlen:kvs.length=vs.length:=Paired.length r
   exact wpAny_truthy_dict hS m (by omega) ⟨H,I.tok _,by rw[uZ r];exact q⟩
 | _=>exact(show False from e).elim
theorem yU (ha:PE X a ta)(he:∀ whole,isTrue a X.env whole=(do let v <-whole;standAt a.pos;holding [v] (truthy v))) :
  PT X a (λ σ H Q=>ta σ H λ x H'=>∃ k,Hc X.K x H' k/\Q k H'):=by
 intro pins s σ H Q I h
 exact isTrue_plain (bO (ha pins s σ H _ I h) λ v s1 ⟨x,H1,I1,r1,q1⟩=>Ed pins s1 σ H1 x v Q I1 r1 q1) (he _)
theorem uP:e_ X (binaryOp .Add) (λ x y H Q=>∃ i j,x=.str i/\y=.str j/\i.length+j.length<=sizeLine/\Q (.str (i++j)) H):=by
 intro pins s σ H x y v u Q I rx ry h
 obtain⟨i,j,rfl,rfl,hz,q⟩:=h
 obtain⟨t,rfl⟩:=rx
 obtain⟨t',rfl⟩:=ry
 exact add_str (λ t' tk=>⟨.str (i++j),H,I.tok _,⟨_,rfl⟩,q⟩) hz
theorem vals1 {x:V}{us:List Value}(r:Vals [x] us):∃ u,us=[u]/\RelV x u:=by
 cases r with
 | cons r1 r2=>cases r2;exact⟨_,rfl,r1⟩
theorem vals2 {x y:V}{us:List Value}(r:Vals [x,y] us):∃ u w',us=[u,w']/\RelV x u/\RelV y w':=by
 cases r with
 | cons r1 r2=>
  cases r2 with
  | cons r3 r4=>cases r4;exact⟨_,_,rfl,r1,r3⟩
theorem AL:cg X (.builtin "abs") (λ xs H Q=>∃ i,xs=[.int i]/\Q (.int (if i < 0 then -i else i)) H):=by
 intro pins s σ H xs us Q I r h
 obtain⟨i,rfl,q⟩:=h
 obtain⟨u,rfl,t,rfl⟩:=vals1 r
 exact call_abs_int λ u tk=>⟨.int (if i < 0 then -i else i),H,I.tok _,⟨_,rfl⟩,q⟩
theorem yg (hc:X.calm=true):cg X (.builtin "max") (λ xs H Q=>∃ i j,xs=[.int i,.int j]/\Q (.int (if j > i then j else i)) H):=by
 intro pins s σ H xs us Q I r h
 obtain⟨i,j,rfl,q⟩:=h
 obtain⟨u,w',rfl,⟨t,rfl⟩,⟨t',rfl⟩⟩:=vals2 r
 refine max_two_ints (I.ok.hd hc) λ h' tk k=>⟨_,H,I.kept k,?_,q⟩
 by_cases hj:j > i
 ·rw[if_pos hj,if_pos hj];exact⟨_,rfl⟩
 ·rw[if_neg hj,if_neg hj];exact⟨_,rfl⟩
theorem qo:cg X (.type "int") (λ xs H Q=>(∃ i,xs=[.int i]/\Q (.int i) H)∨∃ k,xs=[.bl k]/\Q (.int (if k then 1 else 0)) H):=by
 intro pins s σ H xs us Q I r h
 rcases h with⟨i,rfl,q⟩|⟨k,rfl,q⟩
 ·obtain⟨u,rfl,t,rfl⟩:=vals1 r
  exact call_int_int ⟨.int i,H,I,⟨_,rfl⟩,q⟩
 ·obtain⟨u,rfl,r1⟩:=vals1 r
  cases r1
  exact call_int_bool ⟨.int (if k then 1 else 0),H,I.tok _,⟨_,rfl⟩,q⟩
end
end L2
namespace L2
open PySem PySem.Spec PyProof.Rows
structure Hf (h:Heap)(x dx C:Addr)(mA:Str->Option Value):Prop where
 obj:h.get? x=some (PySem.W.instObj C dx)
 ns:h.Ns1 dx mA
 ne:dx≠x
theorem xN {h:Heap}{dx:Addr}{mA:Str->Option Value}(n:h.Ns1 dx mA):∃ od,h.get? dx=some od/\∀ name,PySem.W.lookIn name od=some (mA name):=by
 obtain⟨o,es,ep,ho,hd,hk,_,hm⟩:=n
 refine⟨o,ho,λ name=>?_⟩
 have e:=hm name
 unfold nsFind findBy at e
 rw[<-Array.find?_toList]at e
 unfold PySem.W.lookIn
 rw[hd]
 dsimp only
 split
 ·rename_i y q
  rw[q]at e
  exact congrArg some e
 ·rename_i q
  rw[q]at e
  have a:es.toList.any (·.refKey)=false:=by
   rw[List.any_eq_false]
   intro y hy
   obtain⟨z,t,Ag⟩:=hk y (Array.mem_toList_iff.mp hy)
   simp[DictEntry.refKey,Ag]
  have a':¬ es.toList.any (·.refKey)=true:=by rw[a];exact Bool.false_ne_true
  rw[if_neg a']
  exact congrArg some e
theorem Hf.look {h:Heap}{x dx C:Addr}{mA:Str->Option Value}(I:Hf h x dx C mA):∃ od,PySem.W.InstAt h x (PySem.W.instObj C dx) C (some od)/\∀ name,PySem.W.lookIn name od=some (mA name):=
 let ⟨od,ho,hl⟩:=xN I.ns
 ⟨od,⟨I.obj,rfl,rfl,ho⟩,hl⟩
section
variable {prog:Program}{w:World}{A:Around}{E:Value->Shared->Prop}{s:Shared}{K:PySem.W.Frag}{x dx C f:Addr}{mA:Str->Option Value}{name:Str}{v:Value}
end
theorem oV.some_of {v:V}{o:Option Value}(r:oV (some v) o):∃ u,o=some u/\RelV v u:=by
 cases o with
 | none=>exact(show False from r).elim
 | some u=>exact⟨u,rfl,r⟩
section
variable {P:Program}{w:World}{H H':Hp}{h h':Heap}{a C dx:Addr}{fs QV:List (Str × V)}
theorem CB (bN:j7 P w H h)(e:H a=some (.ins C dx fs)):∃ mA,Hf h a dx C mA/\(∀ f,oV (fs.lookup f) (mA f))/\PySem.Within mA (fs.map (·.1))/\fs.length<=1000/\H dx=some (.own a):=by
 obtain⟨d,z,ne,ob,mA,n,r,q⟩:=(show b8 P w H h a (.ins C dx fs) from bN a _ e)
 exact⟨mA,⟨ob,n,ne⟩,r,q,z,d⟩
end
structure NG (K:PySem.W.Frag)(C:Addr):Prop where
 pg:PySem.W.plainGet K C Str.empty=true
 hd:PySem.W.hasDictIn K C=true
 po:PySem.W.plainOver K C=true
 sa:PySem.W.findIn K (.ref C) "__setattr__"=some (some (.builtin "object.__setattr__"))
theorem NG.get {K:PySem.W.Frag}{C:Addr}(c:NG K C)(f:Str):PySem.W.plainGet K C f=true:=c.pg
section
variable {X:Cx}{pins:List (Addr × Obj)}{σ:St}{H:Hp}{s:Shared}{a C dx:Addr}{fs:List (Str × V)}{f:Str}{v:V}{A:Around}{E:Value->Shared->Prop}
end
section
variable {X:Cx}{o e value:Expr}{f:Str}{pos pos' uC:Pos}{ta tv:TE}
end
section
variable {X:Cx}{pins:List (Addr × Obj)}{σ:St}{H:Hp}{s:Shared}{A:Around}{E:Value->Shared->Prop}{Q:Value->Shared->Prop}{c:Value}{b:Bool}
inductive mM (K:PySem.W.Frag) (H:Hp):V->Value->Prop where
 | aY:mM K H .aY (.type "NoneType")
 | bl (x:Bool):mM K H (.bl x) (.type "bool")
 | int (i:Int):mM K H (.int i) (.type "int")
 | str (x:Str):mM K H (.str x) (.type "str")
 | DH (x:UInt64):mM K H (.DH x) (.type "float")
 | lst {a:Addr}{xs:List V}(e:H a=some (.lst xs)):mM K H (.ref a) (.type "list")
 | qc {a:Addr}{o:Obj}{xs:List V}(e:H a=some (.qc o (.lst xs))):mM K H (.ref a) (.type "list")
 | tup {a:Addr}{xs:List V}(e:H a=some (.tup xs)):mM K H (.ref a) (.type "tuple")
 | dK {a:Addr}{kvs:List (Key × V)}(e:H a=some (.dK kvs)):mM K H (.ref a) (.type "dict")
 | dT {a:Addr}{kvs:List (List Key × V)}(e:H a=some (.dT kvs)):mM K H (.ref a) (.type "dict")
 | ins {a C dx:Addr}{fs:List (Str × V)}(e:H a=some (.ins C dx fs)) (cl:NG K C) (ha:PySem.W.findIn K (.ref C) "__class__"=some (some (.builtin "object.__class__")))
   (hn:PySem.W.specialIn K (.builtin "object.__class__") "__get__"=some (some (.builtin "getset_descriptor.__get__"))) (Ob:PySem.W.takesIn K (.builtin "object.__class__")=some true)
   (hm:PySem.W.mroIn K C (.type "object")=some true):mM K H (.ref a) (.ref C)
theorem js {x:V}{u t:Value}(I:Inv X pins σ H s)(rx:RelV x u)(ty:mM X.K H x t)(e:PySem.W.kitOne X.K t c=some b)(h:∀ tk,Q (.bool b) { s with toks:=tk }) :
  wpAny (model X.prog X.w) A (call (.builtin "isinstance") [u,c]) Q E s:=by
 cases ty with
 | aY=>cases (show u=Value.none from rx);exact PySem.W.kia_one PySem.W.kitx_none I.lQ True.intro e (λ z=>nomatch z) h
 | bl y=>cases (show u=Value.bool y from rx);exact PySem.W.kia_one PySem.W.kitx_bool I.lQ True.intro e (λ z=>nomatch z) h
 | int i=>obtain⟨t,q⟩:=(show ∃ t,u=Value.int i t from rx);cases q;exact PySem.W.kia_one PySem.W.kitx_int I.lQ True.intro e (λ z=>nomatch z) h
 | str y=>obtain⟨t,q⟩:=(show ∃ t,u=Value.str y t from rx);cases q;exact PySem.W.kia_one PySem.W.kitx_str I.lQ True.intro e (λ z=>nomatch z) h
 | DH y=>obtain⟨t,q⟩:=(show ∃ t,u=Value.float y t from rx);cases q;exact PySem.W.kia_one PySem.W.kitx_float I.lQ True.intro e (λ z=>nomatch z) h
 | @lst a xs ea=>
  cases (show u=Value.ref a from rx)
  obtain⟨_,_,n,_,h1⟩:=(show b8 X.prog X.w H s.heap a (.lst xs) from I.bN a _ ea)
  exact PySem.W.kia_one PySem.W.kitx_list I.lQ ⟨_,h1,rfl⟩ e (λ z=>nomatch z) h
 | @qc a ob xs ea=>
  cases (show u=Value.ref a from rx)
  obtain⟨_,_,_,n,_,h1⟩:=(show b8 X.prog X.w H s.heap a (.qc ob (.lst xs)) from I.bN a _ ea)
  exact PySem.W.kia_one PySem.W.kitx_list I.lQ ⟨_,h1,rfl⟩ e (λ z=>nomatch z) h
 | @tup a xs ea=>
  cases (show u=Value.ref a from rx)
  obtain⟨_,_,_,p⟩:=(show b8 X.prog X.w H s.heap a (.tup xs) from I.bN a _ ea)
  obtain⟨o,h1,h2,_⟩:=p
  exact PySem.W.kia_one PySem.W.kitx_tuple I.lQ ⟨o,h1,h2⟩ e (λ z=>nomatch z) h
 | @dK a kvs ea=>
  cases (show u=Value.ref a from rx)
  obtain⟨_,_,vs,_,p⟩:=(show b8 X.prog X.w H s.heap a (.dK kvs) from I.bN a _ ea)
  obtain⟨o,es,ep,h1,h2,_⟩:=p
  exact PySem.W.kia_one PySem.W.kitx_dict I.lQ ⟨o,h1,h2.1⟩ e (λ z=>nomatch z) h
 | @dT a kvs ea=>
  cases (show u=Value.ref a from rx)
  obtain⟨_,_,xs,_,o,es,ep,h1,h2,_⟩:=(show b8 X.prog X.w H s.heap a (.dT kvs) from I.bN a _ ea)
  exact PySem.W.kia_one PySem.W.kitx_dict I.lQ ⟨o,h1,h2.1⟩ e (λ z=>nomatch z) h
 | @ins a C dx fs ea cl ha hn Ob hm=>
  cases (show u=Value.ref a from rx)
  obtain⟨mA,O,_⟩:=CB I.bN ea
  obtain⟨od,J,_⟩:=O.look
  exact PySem.W.kia_one (PySem.W.kitx_own (cl.get _) cl.hd ha hn Ob hm) I.lQ J e (λ z=>nomatch z) h
end
end L2
namespace L2
open PySem PySem.Spec PyProof.Rows
structure fK (k:Nat)(A:Around):Prop where
 hd:A.handled=none
 gd:A.guards=some []
 dp:A.depth+3 * k+5 < recursionLimit
 un:A.units+16 * k+200 < cLine
theorem fK.mono {j k:Nat}{A:Around}(r:fK k A)(h:j<=k):fK j A:=⟨r.hd,r.gd,by have:=r.dp;omega,by have:=r.un;omega⟩
theorem fK.deeper {k:Nat}{A:Around}(r:fK (k+1) A) (env:Env):fK k (A.deeper env):=
 ⟨r.hd,r.gd,by have:=r.dp;show A.depth+1+3 * k+5 < _;omega,by have:=r.un;show A.units+3+16 * k+200 < _;omega⟩
theorem fK.depth {k:Nat}{A:Around}(r:fK k A):A.depth < recursionLimit:=by have:=r.dp;omega
theorem fK.units {k:Nat}{A:Around}(r:fK k A):A.units+64 < cLine:=by have:=r.un;omega
def Bg:TA:=λ _ H Q=>Q [] H
def sj (ta:TE)(tr:TA):TA:=λ σ H Q=>ta σ H λ x H1=>tr σ H1 λ xs H2=>Q (x :: xs) H2
section
variable {X:Cx}{e:Expr}{es:List Expr}{te:TE}{t:TA}{pos:Pos}
theorem gK:PA X [] Bg:=λ _ _ _ _ H Q I h=>Calls.spliced_nil ⟨[],H,I,.nil,h⟩
theorem cQ (ha:PE X e te)(hr:PA X es t)(hs:starEach (e :: es) X.env=(false,eval e X.env) :: starEach es X.env:=by rfl):PA X (e :: es) (sj te t):=by
 intro pos pins s σ H Q I h
 rw[hs]
 show wpAny _ _ (spliced ((false,eval e X.env) :: backTo pos (starEach es X.env))) _ _ s
 refine Calls.spliced_cons (bO (ha pins s σ H _ I h) λ u s1 ⟨x,H1,I1,r1,q1⟩=>?_)
 exact bO (hr pos pins s1 σ H1 _ I1 q1) λ us s2 ⟨xs,H2,I2,r2,q2⟩=>⟨x :: xs,H2,I2,.cons r1 r2,q2⟩
def K_ (t:TA):TE:=λ σ H Q=>t σ H λ xs H1=>xs.length<=sizeLine/\∀ p,H1 p=none->Q (.ref p) (upd H1 p (.tup xs))
def Lg (t:TA):TE:=λ σ H Q=>t σ H λ xs H1=>xs.length<=sizeLine/\∀ p,H1 p=none->Q (.ref p) (upd H1 p (.lst xs))
theorem zc {x1} (h:PA X es t):PE X (.Tuple es x1 pos) (K_ t):=by
 intro pins s σ H Q I hq
 refine wpAny_Tuple_spliced (bO (h pos pins s σ H _ I hq) λ us s1 ⟨xs,H1,I1,r,z,q⟩=>⟨by rw[<-r.length];exact z,?_⟩)
 have hf:H1 s1.heap.objs.size=none:=I1.bN.fresh (Nat.le_refl _)
 refine⟨.ref s1.heap.objs.size,upd H1 s1.heap.objs.size (.tup xs),I1.laid (t':=s1.toks) (λ b u e=>Heap.get?_push_of_some _ e) (Nat.le_refl _) ?_,rfl,q _ hf⟩
 exact⟨z,us,r,⟨_,Heap.get?_push_size _ rfl,rfl,_,rfl⟩⟩
theorem EX (h:PA X es t):PE X (.List es pos) (Lg t):=by
 intro pins s σ H Q I hq
 refine wpAny_List_spliced (bO (h pos pins s σ H _ I hq) λ us s1 ⟨xs,H1,I1,r,z,q⟩=>⟨by rw[<-r.length];exact z,?_⟩)
 have hf:H1 s1.heap.objs.size=none:=I1.bN.fresh (Nat.le_refl _)
 refine⟨.ref s1.heap.objs.size,upd H1 s1.heap.objs.size (.lst xs),I1.laid (t':=s1.toks) (λ b u e=>Heap.get?_push_of_some _ e) (Nat.le_refl _) ?_,rfl,q _ hf⟩
 exact⟨z,us,0,r,Heap.get?_push_size _ rfl⟩
end
abbrev Sp:=List V->Hp->VK->XK->Prop
abbrev AY:=List Env->Hp->Shared->XK->Value->Shared->Prop
structure C' (P:Program)(w:World)(K:PySem.W.Frag)(mg:Str->Option Value)(base:Heap)(A:Around)(outer:List Env)(s:Shared)(H:Hp):Prop where
 frames:A.frames=some outer
 mod:Mod K mg base
 bs:∀ b o,base.get? b=some o->s.heap.get? b=some o/\H b=none
 C2:base.objs.size<=s.heap.objs.size
 mH:s.heap.FunFrames base outer
 GF:∀ b∈yq outer,H b=none
 bN:j7 P w H s.heap
 bare:AllBare s.gens
def CE (outer:List Env)(P:Program)(w:World)(H:Hp)(s:Shared)(Q:VK)(u:Value)(s':Shared):Prop:=
 ∃ v H',s'.os=s.os/\AllBare s'.gens/\Un (yq outer) [] H H' s.heap s'.heap/\j7 P w H' s'.heap/\RelV v u/\Q v H'
def CR (CX:AY)(outer:List Env)(P:Program)(w:World)(H:Hp)(s:Shared)(Q:VK)(E:XK)(r:Result)(s':Shared):Prop:=
 match r with
 | .ok (.ret u)=>CE outer P w H s Q u s'
 | .ok _=>False
 | .error e=>CX outer H s E e s'
structure j_ (P:Program)(w:World)(K:PySem.W.Frag)(mg:Str->Option Value)(base:Heap)(CX:AY)(k:Nat)(f:Addr)(fd:FuncData)(ps:List Str)(sp:Sp):Prop where
 len:∀ vs H Q E,sp vs H Q E->vs.length=ps.length
 run:∀ (A:Around) (outer:List Env) (s:Shared) (H:Hp) (args:Args) (us:List Value) (vs:List V) (Q:VK) (E:XK),fK k A->C' P w K mg base A outer s H->BindsTo s fd args (ps.zip us)->Vals vs us->sp vs H Q E->
  codeAny (model P w) A (.call (.ref f) args) (CR CX outer P w H s Q E) s
section
variable {X:Cx}{pins:List (Addr × Obj)}{σ:St}{H:Hp}{s s':Shared}
theorem Inv.M3 (I:Inv X pins σ H s):C' X.prog X.w X.K X.mg X.base X.A X.stack s H:=
 ⟨I.ok.frames,I.ok.mod,I.bs,Nat.le_trans I.ok.C2 I.sz,I.stack,I.vD,I.bN,I.bare⟩
theorem Inv.after {Q:VK}{u:Value}(I:Inv X pins σ H s)(h:CE X.stack X.prog X.w H s Q u s'):EP X pins σ Q u s':=by
 obtain⟨v,H',os,bare,un,bN,r,q⟩:=h
 obtain⟨hh,g,d,t,Iq⟩:=s'
 obtain rfl:Iq=s.os:=os
 exact⟨v,H',I.call (h':=hh) (g':=g) (d':=d) (t':=t) (ch:=[]) un bN bare (λ b z=>absurd z (by simp)),r,q⟩
end
def Di (sp:Sp)(DK:List V)(E:XK)(t:TA):TE:=λ σ H Q=>t σ H λ vs H1=>sp (vs++DK) H1 Q E
def Binds (K:PySem.W.Frag)(fd:FuncData)(ps:List Str)(ds:List Value):Prop:=
 ∀ (s:Shared) (us:List Value),K.In s.heap->(us++ds).length=ps.length->BindsTo s fd ⟨us,[]⟩ (ps.zip (us++ds))
theorem Binds.all {K:PySem.W.Frag}{fd:FuncData}{ps:List Str}(h:∀ us:List Value,us.length=ps.length->bindArgs fd ⟨us,[]⟩=pure (ps.zip us)):Binds K fd ps []:=λ s us _ hl=>by
 rw[List.append_nil]at hl ⊢
 exact .of_eq (h us hl)
def Passes (CX:AY)(X:Cx)(E:XK):Prop:=∀ (pins:List (Addr × Obj)) (σ:St) (H:Hp) (s:Shared) (e:Value) (s':Shared),Inv X pins σ H s->CX X.stack H s E e s'->X.xe e s'
section
variable {X:Cx}{CX:AY}{k:Nat}{f C:Addr}{fd:FuncData}{ps:List Str}{sp:Sp}{DK:List V}{ds:List Value}{E:XK}{x m:Str}{p pos apos:Pos}{e o:Expr}{es:List Expr}{ta:TE}{t:TA}
theorem Eu {pins:List (Addr × Obj)}{σ:St}{H:Hp}{s:Shared}{Q:VK}{us:List Value}{vs:List V}(F:j_ X.prog X.w X.K X.mg X.base CX k f fd ps sp)(hr:fK k X.A)(hb:Binds X.K fd ps ds)(hd:Vals DK ds)(hx:Passes CX X E)
  (I:Inv X pins σ H s) (r:Vals vs us) (h:sp (vs++DK) H Q E):wpAny (model X.prog X.w) X.A (call (.ref f) us) (EP X pins σ Q) X.xe s:=by
 have r2:Vals (vs++DK) (us++ds):=r.append hd
 have hl:(us++ds).length=ps.length:=by rw[<-r2.length];exact F.len _ _ _ _ h
 refine wpAny_call (codeAny_mono (F.run X.A X.stack s H ⟨us,[]⟩ (us++ds) (vs++DK) Q E hr I.M3 (hb s us I.lQ hl) r2 h) λ r s' hq=>?_)
 cases r with
 | error e=>exact hx pins σ H s e s' I hq
 | ok fl=>
  cases fl with
  | ret u=>exact I.after hq
  | next=>exact False.elim hq
  | brk=>exact False.elim hq
  | cont=>exact False.elim hq
theorem BS (F:j_ X.prog X.w X.K X.mg X.base CX k f fd ps sp)(hr:fK k X.A)(hg:Gl X x)(hm:X.mg x=some (.ref f)) (hk:PySem.W.keepIn X.K (.ref f)=true) (hb:Binds X.K fd ps ds)(hd:Vals DK ds)(hx:Passes CX X E)
  (ha:PA X (e :: es) t) (q_:(x == ("__debug__":Str))=false:=by decide) (he:starEach (e :: es) X.env=(false,eval e X.env) :: starEach es X.env:=by rfl) (i':(backTo pos (starEach es X.env)).any (·.1)=false:=by rfl) :
  PE X (.Call (.Name x p) (e :: es) [] pos) (Di sp DK E t):=by
 intro pins s σ H Q I h
 refine wpAny_Call_Name_kw (we I hg hm ?_ q_)
 refine PySem.W.callWith_K (h₀:=X.base) I.ok.mod.Je hk (bO (ha pos pins s σ H _ I h) λ us s1 ⟨vs,H1,I1,r,q⟩=>⟨I1.lQ,?_⟩) he i'
 exact Eu F hr hb hd hx I1 r q
end
section
variable {X:Cx}{CX:AY}{k:Nat}{f C:Addr}{fd:FuncData}{ps ks:List Str}{sp:Sp}{E:XK}{x m:Str}{p pos apos PQ:Pos}{e o:Expr}{es:List Expr}{RI:List Keyword}{te ta:TE}{t tk:TA}{nm:Option Str}
variable {g:List Value->List Value->List Value}{gV:List V->List V->List V}
end
structure jt (N P:List Str)(sc:Scope):Prop where
 kind:sc.kind=.function
 co:sc.isCoroutine=false
 gen:sc.isGenerator=false
 nd:N.Nodup
 pre:N.take P.length=P
 par:∀ x∈P,sc.names.lookup x=some .local∨sc.names.lookup x=some .cell
 Fm:∀ y∈sc.names,y.2≠.free
theorem qp {kindOf:Str->Option NameKind}{x:Str}:∀ {binds:List (Str × Value)}{m:Str->Option Value},(∀ v,(x,v)∉binds)->bindL kindOf binds m x=m x
 | [],_,_=>rfl
 | (n,v) :: r,m,h=>by
  unfold bindL
  rw[qp λ w hw=>h w (List.mem_cons_of_mem _ hw)]
  split
  ·have:x≠n:=by rintro rfl;exact h v List.mem_cons_self
   simp[this]
  ·rfl
theorem qr {kindOf:Str->Option NameKind}{x:Str}:∀ {binds:List (Str × Value)}{m:Str->Option Value},(∀ v,(x,v)∉binds)->bindC kindOf binds m x=m x
 | [],_,_=>rfl
 | (n,v) :: r,m,h=>by
  unfold bindC
  rw[qr λ w hw=>h w (List.mem_cons_of_mem _ hw)]
  split
  ·rfl
  ·have:x≠n:=by rintro rfl;exact h v List.mem_cons_self
   simp[this]
theorem qq {kindOf:Str->Option NameKind}{x:Str}{v:Value}:∀ {P:List Str}{vs:List Value}{i:Nat}{m:Str->Option Value},P.Nodup->P[i]? = some x->vs[i]? = some v->kindOf x=some .local->
  bindL kindOf (P.zip vs) m x=some v
 | [],_,_,_,_,h,_,_=>by simp at h
 | _ :: _,[],_,_,_,_,h,_=>by simp at h
 | p :: P,w :: vs,0,m,nd,h1,h2,hk=>by
  simp at h1 h2;subst h1;subst h2
  show bindL kindOf ((p,w) :: P.zip vs) m p=_
  unfold bindL
  rw[qp λ v hv=>(List.nodup_cons.mp nd).1 (List.of_mem_zip hv).1,if_pos hk]
  simp
 | p :: P,w :: vs,i+1,m,nd,h1,h2,hk=>by
  show bindL kindOf ((p,w) :: P.zip vs) m x=_
  unfold bindL
  exact qq (i:=i) (List.nodup_cons.mp nd).2 (by simpa using h1) (by simpa using h2) hk
theorem qt {kindOf:Str->Option NameKind}{x:Str}{v:Value}:∀ {P:List Str}{vs:List Value}{i:Nat}{m:Str->Option Value},P.Nodup->P[i]? = some x->vs[i]? = some v->kindOf x≠some .local->
  bindC kindOf (P.zip vs) m x=some v
 | [],_,_,_,_,h,_,_=>by simp at h
 | _ :: _,[],_,_,_,_,h,_=>by simp at h
 | p :: P,w :: vs,0,m,nd,h1,h2,hk=>by
  simp at h1 h2;subst h1;subst h2
  show bindC kindOf ((p,w) :: P.zip vs) m p=_
  unfold bindC
  rw[qr λ v hv=>(List.nodup_cons.mp nd).1 (List.of_mem_zip hv).1,if_neg hk]
  simp
 | p :: P,w :: vs,i+1,m,nd,h1,h2,hk=>by
  show bindC kindOf ((p,w) :: P.zip vs) m x=_
  unfold bindC
  exact qt (i:=i) (List.nodup_cons.mp nd).2 (by simpa using h1) (by simpa using h2) hk
def start (N:List Str)(vs:List V):St:=vs.map some++List.replicate (N.length - vs.length) none
def ua (CX:AY)(P:Program)(w:World)(K:PySem.W.Frag)(mg:Str->Option Value)(base:Heap)(N:List Str)(qual:Str)(scope:Scope)(f:Addr)(cd:Value)(A:Around)(outer:List Env)(s:Shared)(H:Hp)(E:XK):Cx where
 prog:=P
 w:=w
 K:=K
 mg:=mg
 base:=base
 A:=A.deeper (envOfC qual scope s.heap.objs.size f cd)
 N:=N
 fY:=s
 vt:=H
 env:=envOfC qual scope s.heap.objs.size f cd
 outer:=outer
 stack:=envOfC qual scope s.heap.objs.size f cd :: outer
 ex:=[]
 calm:=true
 fn:=λ _=>true
 pn:=[]
 xe:=λ e s'=>wpAny (model P w) (A.deeper (envOfC qual scope s.heap.objs.size f cd)) (leaving (envOfC qual scope s.heap.objs.size f cd) e) (λ _ yQ=>CX outer H s E e yQ) (λ e' yQ=>CX outer H s E e' yQ) s'
theorem ub {sc:Scope}{n:Nat}{x:Str}(h:sc.names.lookup x=some .cell):∃ c,(cellsFrom n sc.names []).lookup x=some c:=by
 have q:=PySem.W.cellsFrom_some sc.names n [] (.inl h)
 exact Option.isSome_iff_exists.mp q
theorem xS {CX:AY}{P:Program}{w:World}{K:PySem.W.Frag}{mg:Str->Option Value}{base:Heap}{N ps:List Str}{qual:Str}{scope:Scope}{f:Addr}{cd:Value}{A:Around}{outer:List Env}{s s1:Shared}{H:Hp}{E:XK}{us:List Value}{vs:List V}
  (S:jt N ps scope) (hd:A.handled=none) (e0:C' P w K mg base A outer s H) (hl:vs.length=ps.length) (r:Vals vs us)
  (x:InCallC s s.heap.objs.size (bindL (envOfC qual scope s.heap.objs.size f cd).kindOf (ps.zip us) λ _=>none) (cellsFrom (s.heap.objs.size+1) scope.names []) (bindC (envOfC qual scope s.heap.objs.size f cd).kindOf (ps.zip us) λ _=>none) s1) :
  Inv (ua CX P w K mg base N qual scope f cd A outer s H E) [] (start N vs) H s1:=by
 have i':ps.length<=N.length:=by have:=congrArg List.length S.pre;rw[List.length_take]at this;omega
 obtain⟨h1,tk,rfl,hk⟩:=x.done
 have noA:∀ b:Addr,b∉(ua CX P w K mg base N qual scope f cd A outer s H E).ex:=λ b z=>absurd (show b∈([]:List Addr) from z) (by simp)
 refine⟨⟨e0.mod,S.kind,rfl,rfl,Nat.le_refl _,λ y z c h1 h2=>?_,λ y hy=>?_,λ y c _ h=>?_,λ _=>hd,Around.frames_deeper e0.frames,.inr ⟨rfl,rfl⟩,λ b z=>absurd z (noA b),e0.bs,e0.C2,λ b _ _=>noA b,λ b z=>absurd z (noA b),e0.mH,e0.GF⟩,
  rfl,e0.bare,Un.kept hk,⟨_,x.toInCall.ns,λ i y v h1 h2 h3=>?_⟩,λ y c h=>⟨_,x.cell y c h⟩,e0.bN.fresh (Nat.le_refl _),λ y c h=>?_,λ p hp=>absurd (show p∈([]:List (Addr × Obj)) from hp) (by simp),e0.bN.kept hk,?_⟩
 ·exact name_of_addr x.apart (PySem.mem_of_lookup h1) (PySem.mem_of_lookup h2)
 ·have hy:scope.names.lookup y=some .cell∨scope.names.lookup y=some .free:=hy
  rcases hy with hy|hy
  ·exact ub hy
  ·exact absurd rfl (S.Fm _ (PySem.mem_of_lookup hy))
 ·exact Nat.le_of_lt (x.above y c (PySem.mem_of_lookup h))
 ·have hi:i < vs.length:=by
   unfold start at h2
   by_cases hi:i < vs.length
   ·exact hi
   ·rw[List.getElem?_append_right (by simpa using hi)]at h2
    rw[List.getElem?_replicate]at h2
    split at h2<;>cases h2
  have ha:vs[i]? = some v:=by
   unfold start at h2
   rw[List.getElem?_append_left (by simpa using hi),List.getElem?_map]at h2
   cases e:vs[i]? with
   | none=>rw[e]at h2;cases h2
   | some a=>rw[e]at h2;cases h2;rfl
  obtain⟨u,hu,rv⟩:=r.get ha
  have hp:ps[i]? = some y:=by
   rw[<-S.pre,List.getElem?_take_of_lt (by omega)];exact h1
  have ndP:ps.Nodup:=by rw[<-S.pre];exact S.nd.sublist (List.take_sublist _ _)
  refine⟨u,rv,?_⟩
  rcases S.par y (List.mem_of_getElem? hp) with k|k
  ·exact .inl ⟨k,qq ndP hp hu k⟩
  ·obtain⟨c,e⟩:=ub (n:=s.heap.objs.size+1) k
   refine .inr ⟨.inl k,c,e,?_⟩
   have q:=x.cell y c e
   rw[qt ndP hp hu (by show scope.names.lookup y≠_;rw[k];decide)]at q
   exact q
 ·exact e0.bN.fresh (Nat.le_of_lt (x.above y c (PySem.mem_of_lookup h)))
 ·unfold start
  show _=N.length
  rw[List.length_append,List.length_map,List.length_replicate]
  omega
theorem JR {CX:AY}{P:Program}{w:World}{K:PySem.W.Frag}{mg:Str->Option Value}{base:Heap}{k:Nat}{f:Addr}{name qual:Str}{params:Arguments}{body:List Stmt}{scope:Scope}{dV kV doc pm gR ct oc:Value}{an od:Option Addr}
  {vX:Array (Option Value)}{N ps:List Str}{sp:Sp}(lk:K.lookup f=some ⟨oc,od,.func (PySem.W.fnOf name qual params body scope dV kV doc pm an gR ct),vX⟩) (yn:PySem.W.codeIn K gR qual=true) (S:jt N ps scope)
  (len:∀ vs H Q E,sp vs H Q E->vs.length=ps.length)
  (Ak:∀ (A:Around) (outer:List Env) (s:Shared) (H:Hp) (vs:List V) (Q:VK) (E:XK),fK k (A.deeper (envOfC qual scope s.heap.objs.size f gR))->sp vs H Q E->
   ∃ t,ke (ua CX P w K mg base N qual scope f gR A outer s H E) body t/\t { nx:=λ _ H'=>Q .aY H',rt:=Q } (start N vs) H) :
  j_ P w K mg base CX (k+1) f (PySem.W.fnOf name qual params body scope dV kV doc pm an gR ct) ps sp:=by
 refine⟨len,λ A outer s H args us vs Q E hr e0 hb r DA=>?_⟩
 have hl:=len _ _ _ _ DA
 have KX:K.In s.heap:=e0.mod.Je.keeps λ b o e=>(e0.bs b o e).1
 have lim:s.heap.NoLimit:=e0.mod.nolimit.keeps λ b o e=>(e0.bs b o e).1
 have tH:∀ y∈ps.zip us,scope.names.lookup y.1=some .local∨(scope.names.lookup y.1=some .cell/\((cellsFrom (s.heap.objs.size+1) scope.names []).lookup y.1).isSome=true):=λ⟨n,v⟩ hy=>by
  rcases S.par n (List.of_mem_zip hy).1 with q|q
  ·exact .inl q
  ·exact .inr ⟨q,PySem.W.cellsFrom_some _ _ _ (.inl q)⟩
 refine codeAny_call_function hr.depth (KX _ _ lk) rfl S.co S.gen rfl (PySem.W.codeRec_of KX yn) (hb _ _ _ _ ?_)
 refine wpAny_newFunctionEnv_cells S.kind tH λ env he s1 x=>?_
 subst he
 refine⟨lim.keeps x.toInCall.keep,codeAny_func ?_⟩
 obtain⟨t,ht,hq⟩:=Ak A outer s H vs Q E (hr.deeper _) DA
 have I:Inv (ua CX P w K mg base N qual scope f gR A outer s H E) [] (start N vs) H s1:=xS S hr.hd e0 hl r x
 refine wpAny_mono (ht [] s1 (start N vs) H _ I hq) (λ fl s' hs=>?_) λ e s' hs=>hs
 have fin:∀ {σ':St}{H':Hp}{v:V}{u:Value},Inv (ua CX P w K mg base N qual scope f gR A outer s H E) [] σ' H' s'->RelV v u->Q v H'->CE outer P w H s Q u s':=
  λ {σ' H' v u} J rv q=>⟨v,H',J.os,J.bare,J.base,J.bN,rv,q⟩
 cases fl with
 | ret u=>
  obtain⟨v,σ',H',J,rv,q⟩:=hs
  exact fin J rv q
 | next=>
  obtain⟨σ',H',J,q⟩:=hs
  exact fin (v:=V.aY) (u:=Value.none) J rfl q
 | brk=>
  obtain⟨_,_,_,q⟩:=hs
  exact False.elim q
 | cont=>
  obtain⟨_,_,_,q⟩:=hs
  exact False.elim q
end L2
namespace L2
open PySem PySem.Spec PyProof.Rows
section
variable {X:Cx}{x:Str}{p pos:Pos}{e:Expr}{es:List Expr}{t:TA}{id T:String}{r:List V->Hp->VK->Prop}
def HN (r:List V->Hp->VK->Prop)(t:TA):TE:=λ σ H Q=>t σ H λ vs H1=>r vs H1 Q
theorem gY (hc:cg X (.builtin id) r) (hg:Gl X x)(hm:X.mg x=none)(hv:bootBuiltins x=some (.builtin id)) (ha:PA X (e :: es) t) (hn:x≠"__name__":=by decide)(q_:(x == ("__debug__":Str))=false:=by decide)
  (he:starEach (e :: es) X.env=(false,eval e X.env) :: starEach es X.env:=by rfl) (i':(backTo pos (starEach es X.env)).any (·.1)=false:=by rfl):PE X (.Call (.Name x p) (e :: es) [] pos) (HN r t):=by
 intro pins s σ H Q I h
 refine wpAny_Call_Name_kw (n4 I hg hm hv ?_ hn q_)
 exact PyProof.Rows.callWith_builtin1 (bO (ha pos pins s σ H _ I h) λ us s1 ⟨vs,H1,I1,r1,q1⟩=>hc pins s1 σ H1 vs us Q I1 r1 q1) he i'
theorem lG (hc:cg X (.type T) r) (hg:Gl X x)(hm:X.mg x=none)(hv:bootBuiltins x=some (.type T)) (ha:PA X (e :: es) t) (hn:x≠"__name__":=by decide)(q_:(x == ("__debug__":Str))=false:=by decide)
  (he:starEach (e :: es) X.env=(false,eval e X.env) :: starEach es X.env:=by rfl) (i':(backTo pos (starEach es X.env)).any (·.1)=false:=by rfl):PE X (.Call (.Name x p) (e :: es) [] pos) (HN r t):=by
 intro pins s σ H Q I h
 refine wpAny_Call_Name_kw (n4 I hg hm hv ?_ hn q_)
 exact PyProof.Rows.callWith_type1 (bO (ha pos pins s σ H _ I h) λ us s1 ⟨vs,H1,I1,r1,q1⟩=>hc pins s1 σ H1 vs us Q I1 r1 q1) he i'
end
end L2
namespace HT
open PySem PyProof.Rows
section
open PySem.SeqAt
open PySem.AutoSeq1 (wpAny_loadPart')
open PySem.MeetsSeq PySem.MeetsSeq2 PySem.MeetsSeq3
end
section
variable {prog:Program}{w:World}{A:Around}{E:Value->Shared->Prop}{s:Shared}
theorem C0 {t b:Addr}{vs ws:List Value}{Q:Value->Shared->Prop}(ht:IsTup s.heap t vs.toArray)(hb:IsTup s.heap b ws.toArray)(hv:vs≠[])
  (h1:ws=[]->Q (.ref t) s) (h2:ws≠[]->Q (.ref s.heap.objs.size) { s with heap:=s.heap.push { cls:=.type "tuple",data:=.seq (vs++ws).toArray } })
  (hsz:vs.length+ws.length<=sizeLine):wpAny (model prog w) A (binaryOp .Add (.ref t) (.ref b)) Q E s:=by
 obtain⟨⟨cls,dd,data,sl⟩,ho,hc,n,hd⟩:=id ht
 obtain⟨⟨Nr,KN,data2,Kj⟩,c9,JF,n2,hd2⟩:=id hb
 simp only at hc hd JF hd2
 subst hc hd JF hd2
 have e:vs.toArray++ws.toArray=(vs++ws).toArray:=by simp
 by_cases hw:ws=[]
 ·exact concat_meets ⟨_,ho,rfl⟩ ⟨_,c9,rfl⟩ noFill_tuple_add seq_tuple_add PySem.F.slot_tuple_add PySem.F.entry_tuple_add (PySem.F.args_tuple_add_2 _ _)
   (tuple_addW1 t b vs.toArray ws.toArray n n2 dd KN sl Kj (by simpa using hv) (by simp[hw])) ⟨ho,c9,h1 hw⟩
 ·refine concat_meets ⟨_,ho,rfl⟩ ⟨_,c9,rfl⟩ noFill_tuple_add seq_tuple_add PySem.F.slot_tuple_add PySem.F.entry_tuple_add (PySem.F.args_tuple_add_2 _ _)
   (tuple_addW2 t b vs.toArray ws.toArray n n2 dd KN sl Kj (by simpa using hv) (by simpa using hw) (by rw[List.size_toArray,List.size_toArray];exact hsz)) ⟨ho,c9,?_⟩
  rw[e]
  exact h2 hw
def cP (n d:Nat):Option Int->Nat
 | none=>d
 | some v=>if v < 0 then (v+(n:Int)).toNat else min v.toNat n
theorem vJ (n d k:Nat):cP n d (some (k:Int))=min k n:=by
 show(if (k:Int) < 0 then ((k:Int)+(n:Int)).toNat else min (k:Int).toNat n)=min k n
 rw[if_neg (by omega),Int.toNat_natCast]
theorem Et (n d:Nat)(hd:d<=n)(o:Option Int):cP n d o<=n:=by
 cases o with
 | none=>exact hd
 | some v=>
  show(if v < 0 then (v+(n:Int)).toNat else min v.toNat n)<=n
  by_cases hv:v < 0
  ·rw[if_pos hv];omega
  ·rw[if_neg hv];exact Nat.min_le_right _ _
theorem wX (v:Int)(n d:Nat):(if v < 0 then max (v+(n:Int)) 0 else min v (n:Int))=((cP n d (some v):Nat):Int):=by
 show(if v < 0 then max (v+(n:Int)) 0 else min v (n:Int))=(((if v < 0 then (v+(n:Int)).toNat else min v.toNat n):Nat):Int)
 by_cases hv:v < 0
 ·simp only[if_pos hv];omega
 ·simp only[if_neg hv];omega
theorem vq (lo hi:Option Int)(n:Nat):Builtin.Slice.sliceAdjust lo hi 1 (n:Int)=(((cP n 0 lo:Nat):Int),((cP n n hi:Nat):Int)):=by
 have h1:¬ ((1:Int) < 0):=by omega
 unfold Builtin.Slice.sliceAdjust
 simp only[h1,if_false]
 refine Prod.ext ?_ ?_
 ·cases lo with
  | none=>rfl
  | some v=>exact wX v n 0
 ·cases hi with
  | none=>rfl
  | some v=>exact wX v n n
theorem uN (i j:Nat):Builtin.Slice.slicePlaces (i:Int) (j:Int) 1=j - i:=by
 unfold Builtin.Slice.slicePlaces
 have h1:(1:Int) > 0:=by omega
 simp only[h1,if_true,Int.ediv_one]
 split<;>omega
theorem nB {v:Value}{o:Option Int}{Q:Option Int->Shared->Prop}(p:IsPart v o)(h:Q o s):wpAny (model prog w) A (Builtin.Slice.slicePartIndex v) Q E s:=by
 cases p with
 | none=>exact slicePart_none h
 | int i t=>exact slicePart_int h
theorem gX {sl:Addr}{vl vu:Value}{lo hi:Option Int}{n:Nat}{Q:Int × Int × Nat->Shared->Prop}(hs:s.heap.IsSliceOf sl vl vu .none)(pl:IsPart vl lo)(pu:IsPart vu hi)
  (h:Q (((cP n 0 lo:Nat):Int),1,cP n n hi - cP n 0 lo) s):wpAny (model prog w) A (Builtin.Slice.sliceApplied (.ref sl) (pure (n:Int))) Q E s:=by
 obtain⟨os,Gg,KC,JB⟩:=id hs
 unfold Builtin.Slice.sliceApplied Builtin.Slice.sliceFields
 refine wpAny_bind (wpAny_bind (wpAny_field Gg JB (x:=vl) rfl (wpAny_bind (wpAny_field Gg JB (x:=vu) rfl (wpAny_bind (wpAny_field Gg JB (x:=.none) rfl (wpAny_pure ?_)))))))
 refine wpAny_bind (slicePart_none ?_)
 show wpAny _ _ (if ((1:Int) == 0)=true then _ else _) _ _ s
 rw[if_neg (by decide)]
 refine wpAny_bind (nB pl (wpAny_bind (nB pu (wpAny_bind (wpAny_pure ?_)))))
 show wpAny _ _ (match Builtin.Slice.sliceAdjust lo hi 1 (n:Int) with|(lo,hi)=>pure (lo,(1:Int),Builtin.Slice.slicePlaces lo hi 1)) _ _ s
 rw[vq lo hi n]
 show wpAny _ _ (pure (((cP n 0 lo:Nat):Int),(1:Int),Builtin.Slice.slicePlaces ((cP n 0 lo:Nat):Int) ((cP n n hi:Nat):Int) 1)) _ _ s
 rw[uN]
 exact wpAny_pure h
theorem za (xs:Array Value)(i k:Nat):((List.range k).filterMap λ(m:Nat)=>xs[((i:Int)+(m:Int) * 1).toNat]?).toArray=((xs.toList.drop i).take k).toArray:=by
 have e:(λ(m:Nat)=>xs[((i:Int)+(m:Int) * 1).toNat]?)=λ m=>xs[i+m]?:=by
  funext m
  have:((i:Int)+(m:Int) * 1).toNat=i+m:=by omega
  rw[this]
 rw[e]
 have:=pick_run xs i k
 rw[List.filterMap_map]at this
 have e2:((λ x=>xs[x]?) ∘ λ x=>i+x)=λ m=>xs[i+m]?:=rfl
 rw[e2]at this
 rw[this]
theorem kZ {t sl:Addr}{items:Array Value}{vl vu:Value}{lo hi:Option Int}{Q:Value->Shared->Prop}(ht:IsTup s.heap t items)(hs:s.heap.IsSliceOf sl vl vu .none)(pl:IsPart vl lo)(pu:IsPart vu hi)
  (hw:¬ (cP items.size 0 lo=0/\cP items.size items.size hi=items.size))
  (h:Q (.ref s.heap.objs.size) { s with heap:=s.heap.push { cls:=.type "tuple",data:=.seq ((items.toList.drop (cP items.size 0 lo)).take (cP items.size items.size hi - cP items.size 0 lo)).toArray } })
  (hsz:items.size<=sizeLine):wpAny (model prog w) A (getItem (.ref t) (.ref sl)) Q E s:=by
 have wB:sizeOk (.seq ((items.toList.drop (cP items.size 0 lo)).take (cP items.size items.size hi - cP items.size 0 lo)).toArray):=by
  show((items.toList.drop (cP items.size 0 lo)).take (cP items.size items.size hi - cP items.size 0 lo)).toArray.size<=sizeLine
  rw[List.size_toArray,List.length_take,List.length_drop,Array.length_toList]
  omega
 have hj:cP items.size items.size hi<=items.size:=Et _ _ (Nat.le_refl _) hi
 obtain⟨os,Gg,KC,JB⟩:=id hs
 have MM:s.TypeIs (.ref sl) "slice":=⟨os,Gg,KC⟩
 unfold getItem
 try with_reducible refine wpAny_holding ?_
 first|refine wpAny_bind (wpAny_pure ?_)|skip
 refine wpAny_bind (wpAny_sequenceKey ht.typeIs (by decide) ?_)
 refine wpAny_bind (wpAny_callSpecial?_slot (name:=Str.ofString "__getitem__") ht.typeIs PyProof.Rows.slot_tuple_getitem
  (wpAny_call_entry PyProof.Rows.slot_tuple_getitem ht.typeIs entry_tuple_getitem ?_ (args_tuple_getitem _ _)))
 show wpAny _ _ (Builtin.Tuple.tupleItemsOf (.ref t) >>= _) _ _ s
 refine wpAny_bind (tupleItemsOf_ ht ?_)
 refine wpAny_bind (wpAny_typeOf MM ?_)
 rw[if_pos (by decide)]
 refine wpAny_bind (gX hs pl pu ?_)
 have Ql:¬ ((((cP items.size 0 lo:Nat):Int) == 0 && (1:Int) == 1 && (cP items.size items.size hi - cP items.size 0 lo) == items.size)=true):=by
  intro q
  rw[Bool.and_eq_true,Bool.and_eq_true]at q
  have q1:((cP items.size 0 lo:Nat):Int)=0:=eq_of_beq q.1.1
  have q2:cP items.size items.size hi - cP items.size 0 lo=items.size:=eq_of_beq q.2
  exact hw ⟨by omega,by omega⟩
 show wpAny _ _ (if (((cP items.size 0 lo:Nat):Int) == 0 && (1:Int) == 1 && (cP items.size items.size hi - cP items.size 0 lo) == items.size)=true then _ else _) _ _ s
 rw[if_neg Ql,za]
 first
  | exact wpAny_bind (m:=Builtin.Tuple.tupleExact _) (wpAny_newObj_type (wpAny_pure ⟨_,rfl,wpAny_pure h⟩) wB)
  | exact wpAny_bind (m:=Builtin.Tuple.tupleExact _) (wpAny_newObj_type (wpAny_bind (wpAny_pure (wpAny_pure ⟨_,rfl,wpAny_pure h⟩))) wB)
  | exact wpAny_bind (wpAny_bind (m:=Builtin.Tuple.tupleExact _) (wpAny_newObj_type (wpAny_pure (wpAny_pure ⟨_,rfl,wpAny_pure h⟩)) wB))
  | exact wpAny_bind (wpAny_bind (m:=Builtin.Tuple.tupleExact _) (wpAny_newObj_type (wpAny_pure ⟨_,rfl,wpAny_pure h⟩) wB))
end
end HT
namespace L2
open PySem PySem.Spec PyProof.Rows
abbrev TO:=St->Hp->(Option Int->Hp->Prop)->Prop
def PO (X:Cx)(e:Option Expr)(t:TO):Prop:=
 ∀ (pins:List (Addr × Obj)) (s:Shared) (σ:St) (H:Hp) (Q:Option Int->Hp->Prop),Inv X pins σ H s->t σ H Q->
  wpAny (model X.prog X.w) X.A (evalPart e X.env) (λ u s'=>∃ o H',Inv X pins σ H' s'/\IsPart u o/\Q o H') X.xe s
def Bf:TO:=λ _ H Q=>Q none H
def HF (t:TE):TO:=λ σ H Q=>t σ H λ x H1=>∃ i,x=.int i/\Q (some i) H1
section
variable {X:Cx}{e:Expr}{te:TE}{lo hi:Option Expr}{tl th:TO}{pos p2:Pos}
theorem BG:PO X none Bf:=by
 intro pins s σ H Q I h
 rw[evalPart_none]
 exact wpAny_pure ⟨none,H,I,.none,h⟩
theorem BF (h:PE X e te):PO X (some e) (HF te):=by
 intro pins s σ H Q I hw
 rw[evalPart_some]
 refine bO (h pins s σ H _ I hw) λ u s1 ⟨x,H1,I1,r1,q1⟩=>?_
 obtain⟨i,rfl,q⟩:=q1
 obtain⟨t,rfl⟩:=r1
 exact⟨some i,H1,I1,.int i t,q⟩
def Hy (X:Cx)(r:V->Option Int->Option Int->Hp->VK->Prop):Prop:=
 ∀ (pins:List (Addr × Obj)) (s:Shared) (σ:St) (H:Hp) (x:V) (v vl vu:Value) (lo hi:Option Int) (sl:Addr) (Q:VK),Inv X pins σ H s->RelV x v->s.heap.IsSliceOf sl vl vu .none->IsPart vl lo->IsPart vu hi->r x lo hi H Q->
  ∃ T id,typeLookup (.type T) "__getitem__"=pure (some (.builtin id))/\s.TypeIs v T/\wpAny (model X.prog X.w) X.A (getItem v (.ref sl)) (EP X pins σ Q) X.xe s
def Pa (r:V->Option Int->Option Int->Hp->VK->Prop)(te:TE)(tl th:TO):TE:=λ σ H Q=>te σ H λ x H1=>tl σ H1 λ l H2=>th σ H2 λ u H3=>r x l u H3 Q
theorem sI {r:V->Option Int->Option Int->Hp->VK->Prop}(hr:Hy X r)(he:PE X e te)(hl:PO X lo tl)(hu:PO X hi th):PE X (.Subscript e (.Slice lo hi none p2) pos) (Pa r te tl th):=by
 intro pins s σ H Q I h
 refine Subscript_ (bO (he pins s σ H _ I h) λ v s1 ⟨x,H1,I1,r1,q1⟩=>?_)
 refine wpAny_Slice (bO (hl pins s1 σ H1 _ I1 q1) λ vl s2 ⟨l,H2,I2,pl,q2⟩=>bO (hu pins s2 σ H2 _ I2 q2) λ vu s3 ⟨u,H3,I3,pu,q3⟩=>?_)
 rw[evalPart_none]
 refine wpAny_pure ?_
 have I4:Inv X pins σ H3 { s3 with heap:=s3.heap.push { cls:=.type "slice",data:=.fields #[vl,vu,.none] } }:=I3.kept (t':=s3.toks) λ b ob q=>Heap.get?_push_of_some _ q
 obtain⟨T,id,hT,ht,hg⟩:=hr pins { s3 with heap:=s3.heap.push { cls:=.type "slice",data:=.fields #[vl,vu,.none] } } σ H3 x v vl vu l u s3.heap.objs.size Q I4 r1 (Heap.IsSliceOf.new ..) pl pu q3
 show wpAny (model X.prog X.w) X.A (subscriptTail e (.Slice lo hi none p2) v (.ref s3.heap.objs.size)) (EP X pins σ Q) X.xe { s3 with heap:=s3.heap.push { cls:=.type "slice",data:=.fields #[vl,vu,.none] } }
 exact tail_any (ops:=[.ref s3.heap.objs.size,v]) ht hT hg (by with_unfolding_all rfl)
def oH (xs:List V)(lo hi:Option Int):List V:=(xs.drop (HT.cP xs.length 0 lo)).take (HT.cP xs.length xs.length hi - HT.cP xs.length 0 lo)
theorem mw (xs:List V)(lo hi:Option Int):(oH xs lo hi).length<=xs.length:=by
 unfold oH
 rw[List.length_take,List.length_drop]
 omega
def Lw (K:PySem.W.Frag):V->Option Int->Option Int->Hp->VK->Prop:=λ x lo hi H Q=>∃ a xs,x=.ref a/\gF K H a xs/\
 ¬ (HT.cP xs.length 0 lo=0/\HT.cP xs.length xs.length hi=xs.length)/\∀ p,H p=none->Q (.ref p) (upd H p (.tup (oH xs lo hi)))
theorem Em:Hy X (Lw X.K):=by
 intro pins s σ H x v vl vu lo hi sl Q I rx hs pl pu h
 obtain⟨a,xs,rfl,hx,hw,q⟩:=h
 cases rx
 obtain⟨its,r,ht,hz⟩:=I.tuple hx
 have hlen:its.toArray.size=xs.length:=by rw[List.size_toArray];exact r.length.symm
 refine⟨"tuple",_,PyProof.Rows.slot_tuple_getitem.lookup,ht.typeIs,?_⟩
 refine HT.kZ ht hs pl pu (by rw[hlen];exact hw) ?_ (by rw[hlen];exact hz)
 rw[hlen]
 refine⟨.ref s.heap.objs.size,_,I.laid (t':=s.toks) (o:=.tup (oH xs lo hi)) (λ b ob q=>Heap.get?_push_of_some _ q) (Nat.le_refl _) ?_,rfl,q _ (I.bN.fresh (Nat.le_refl _))⟩
 exact⟨Nat.le_trans (mw xs lo hi) hz,_,(r.drop (HT.cP xs.length 0 lo)).take (HT.cP xs.length xs.length hi - HT.cP xs.length 0 lo),IsTup.new _ _⟩
def Ic (K:PySem.W.Frag):R2:=λ x y H Q=>∃ a b xs ys,x=.ref a/\y=.ref b/\gF K H a xs/\gF K H b ys/\xs≠[]/\xs.length+ys.length<=sizeLine/\
 (ys=[]->Q (.ref a) H)/\(ys≠[]->∀ p,H p=none->Q (.ref p) (upd H p (.tup (xs++ys))))
theorem Vals.mX {xs:List V}{us:List Value}(r:Vals xs us):us=[] ↔ xs=[]:=by
 cases r with
 | nil=>simp
 | cons _ _=>simp
theorem BX:e_ X (binaryOp .Add) (Ic X.K):=by
 intro pins s σ H x y v u Q I rx ry h
 obtain⟨a,b,xs,ys,rfl,rfl,ha,hb,hx,hz,q1,q2⟩:=h
 cases rx
 cases ry
 obtain⟨its,r1,p1,_⟩:=I.tuple ha
 obtain⟨cU,r2,p2,_⟩:=I.tuple hb
 refine HT.C0 p1 p2 (λ z=>hx (r1.mX.mp z)) (λ z=>⟨.ref a,H,I,rfl,q1 (r2.mX.mp z)⟩) (λ z=>?_) (by rw[<-r1.length,<-r2.length];exact hz)
 refine⟨.ref s.heap.objs.size,_,I.laid (t':=s.toks) (o:=.tup (xs++ys)) (λ b ob q=>Heap.get?_push_of_some _ q) (Nat.le_refl _) ?_,rfl,q2 (λ w=>z (r2.mX.mpr w)) _ (I.bN.fresh (Nat.le_refl _))⟩
 exact⟨by rw[List.length_append];exact hz,_,r1.append r2,IsTup.new _ _⟩
end
end L2
namespace L2
open PySem PySem.Spec PyProof.Rows
def qQ (n:Nat)(i:Int):Option Nat:=if 0<=i then (if i < n then some i.toNat else none) else if -(n:Int)<=i then some (i+n).toNat else none
def gS {α:Type}(xs:List α)(i:Int):Option α:=(qQ xs.length i).bind λ j=>xs[j]?
theorem wq {n:Nat}{i:Int}{j:Nat}(h:qQ n i=some j):seqIndex? i n=some j/\j < n/\-(n:Int)<=i/\i < n:=by
 unfold qQ at h
 by_cases h0:0<=i
 ·rw[if_pos h0]at h
  by_cases h1:i < n
  ·rw[if_pos h1]at h
   have e:i.toNat=j:=Option.some.inj h
   exact⟨by rw[seqIndex_of h0 h1,e],by omega,by omega,h1⟩
  ·rw[if_neg h1]at h;cases h
 ·rw[if_neg h0]at h
  by_cases h1:-(n:Int)<=i
  ·rw[if_pos h1]at h
   have e:(i+n).toNat=j:=Option.some.inj h
   exact⟨by rw[seqIndex_neg (by omega) h1,e],by omega,h1,by omega⟩
  ·rw[if_neg h1]at h;cases h
theorem m_ {α:Type}{xs:List α}{i:Int}{v:α}(h:gS xs i=some v):∃ j,seqIndex? i xs.length=some j/\xs[j]? = some v/\j < xs.length/\-(xs.length:Int)<=i/\i < xs.length:=by
 unfold gS at h
 cases e:qQ xs.length i with
 | none=>rw[e]at h;cases h
 | some j=>
  rw[e]at h
  obtain⟨h1,h2,h3,h4⟩:=wq e
  exact⟨j,h1,h,h2,h3,h4⟩
theorem e7 {α:Type}{xs:List α}{j:Nat}{v:α}(h:xs[j]? = some v):gS xs (j:Int)=some v:=by
 have hj:j < xs.length:=(List.getElem?_eq_some_iff.mp h).1
 have e:qQ xs.length (j:Int)=some j:=by
  unfold qQ
  rw[if_pos (by omega),if_pos (by omega)];simp
 unfold gS;rw[e];exact h
theorem uj {α:Type}(xs:List α)(v:α):gS (xs++[v]) (-1)=some v:=by
 have hl:(xs++[v]).length=xs.length+1:=by simp
 have e:qQ (xs++[v]).length (-1)=some xs.length:=by
  unfold qQ
  rw[hl,if_neg (by decide),if_pos (by omega)]
  congr 1
  omega
 unfold gS
 rw[e]
 show(xs++[v])[xs.length]? = some v
 simp
def xc (b:Expr):Prop:=∀ o i,subscripted b false o i=operate [o,i] (getItem o i)
def Hz (X:Cx)(r:R2):Prop:=
 ∀ (value slice:Expr) (pins:List (Addr × Obj)) (s:Shared) (σ:St) (H:Hp) (x y:V) (v u:Value) (Q:VK),Inv X pins σ H s->RelV x v->RelV y u->r x y H Q->
  subscripted slice false v u=operate [v,u] (getItem v u)->wpAny (model X.prog X.w) X.A (subscriptTail value slice v u) (EP X pins σ Q) X.xe s
def DR (X:Cx)(id:String)(r:V->List V->Hp->VK->Prop):Prop:=
 ∀ (pins:List (Addr × Obj)) (s:Shared) (σ:St) (H:Hp) (x:V) (xs:List V) (v:Value) (us:List Value) (Q:VK),Inv X pins σ H s->RelV x v->Vals xs us->r x xs H Q->
  wpAny (model X.prog X.w) X.A (call (.builtin id) (v :: us)) (EP X pins σ Q) X.xe s
section
variable {X:Cx}{a b:Expr}{ta tb:TE}{pos:Pos}
theorem Il {r:R2}(hr:Hz X r)(ha:PE X a ta)(hb:PE X b tb)(hs:xc b):PE X (.Subscript a b pos) (HH r ta tb):=by
 intro pins s σ H Q I h
 exact Subscript_ (G_ ha hb I h λ v u s2 x y H2 I2 rx ry q=>hr a b pins s2 σ H2 x y v u Q I2 rx ry q (hs _ _))
def LD (K:PySem.W.Frag):R2:=λ x y H Q=>∃ p xs i v,x=.ref p/\y=.int i/\fJ K H p xs/\gS xs i=some v/\Q v H
def LB (K:PySem.W.Frag):R2:=λ x y H Q=>∃ p xs i v,x=.ref p/\y=.int i/\gF K H p xs/\gS xs i=some v/\Q v H
def LC:R2:=λ x y H Q=>∃ z i c,x=.str z/\y=.int i/\z.length<=sizeLine/\gS z.cps.toList i=some c/\Q (.str ⟨#[c]⟩) H
theorem wo:Hz X (LD X.K):=by
 intro value slice pins s σ H x y v u Q I rx ry h hs
 obtain⟨p,xs,i,z,rfl,rfl,hq,he,q⟩:=h
 cases rx
 obtain⟨t,rfl⟩:=ry
 obtain⟨its,r,pl,hz⟩:=I.list hq
 obtain⟨j,h1,h2,h3,h4,h5⟩:=m_ he
 obtain⟨w,ew,sE⟩:=r.get h2
 have hl:=r.length
 have hn:=jV
 have fin:EP X pins σ Q w s:=⟨z,H,I,sE,q⟩
 by_cases h0:0<=i
 ·have hj:i.toNat=j:=by
   rw[seqIndex_of h0 h5]at h1
   exact Option.some.inj h1
  exact item_listR pl.isList h0 (by omega) (by rw[hj];simpa using ew) fin hs
 ·have hj:(i+(its.toArray.size:Int)).toNat=j:=by
   rw[seqIndex_neg (by omega) h4]at h1
   rw[List.size_toArray,<-hl]
   exact Option.some.inj h1
  exact subscriptTail_builtinR (x:=w) pl.isList.typeIs slot_list_getitem.lookup
   (wpAny_getItem_list_neg (Q:=λ r s'=>r=w/\EP X pins σ Q r s') pl.isList (by omega) (by rw[List.size_toArray]<;>omega) (by omega) (by rw[hj];simpa using ew) ⟨rfl,fin⟩) hs
theorem F9:Hz X (LB X.K):=by
 intro value slice pins s σ H x y v u Q I rx ry h hs
 obtain⟨p,xs,i,z,rfl,rfl,hq,he,q⟩:=h
 cases rx
 obtain⟨t,rfl⟩:=ry
 obtain⟨its,r,pl,hz⟩:=I.tuple hq
 obtain⟨j,h1,h2,h3,h4,h5⟩:=m_ he
 obtain⟨w,ew,sE⟩:=r.get h2
 have hl:=r.length
 have hn:=jV
 have fin:EP X pins σ Q w s:=⟨z,H,I,sE,q⟩
 exact subscriptTail_builtinR (x:=w) pl.typeIs slot_tuple_getitem.lookup
  (getItem_tuple (j:=j) (Q:=λ r s'=>r=w/\EP X pins σ Q r s') pl (by omega) (by omega) (by rw[List.size_toArray,<-hl];exact h1) (by simpa using ew) ⟨rfl,fin⟩) hs
theorem F_:Hz X LC:=by
 intro value slice pins s σ H x y v u Q I rx ry h hs
 obtain⟨z,i,c,rfl,rfl,hz,he,q⟩:=h
 obtain⟨t,rfl⟩:=rx
 obtain⟨t',rfl⟩:=ry
 obtain⟨j,h1,h2,h3,h4,h5⟩:=m_ he
 have hl:z.cps.toList.length=z.length:=by simp[Str.length]
 rw[hl]at h1 h4 h5
 have hn:=jV
 exact tail_any (typeIs_str s z t) slot_str_getitem.lookup (getItem_str (c:=c) (by
  have e1:decide (i < -(2 ^ 63:Int))=false:=decide_eq_false (by omega)
  have e2:decide (i ≥ 2 ^ 63)=false:=decide_eq_false (by omega)
  rw[e1,e2,Bool.or_false]) (by rw[h1];simpa using h2) ⟨.str ⟨#[c]⟩,H,I.tok _,⟨_,rfl⟩,q⟩) hs
theorem uV (its:List Value)(n j:Nat)(u:Value):Obj.mapSeq (·.setIfInBounds j u) { cls:=.type "list",data:=.seq its.toArray n }={ cls:=.type "list",data:=.seq (its.set j u).toArray n }:=by
 simp[Obj.mapSeq]
theorem Inv.lst {pins:List (Addr × Obj)}{σ:St}{H:Hp}{s:Shared}{p:Addr}{xs:List V}(I:Inv X pins σ H s)(h:H p=some (.lst xs)) :
  ∃ (its:List Value) (n:Nat),Vals xs its/\s.heap.get? p=some { cls:=.type "list",data:=.seq its.toArray n }/\xs.length<=sizeLine:=by
 obtain⟨z,its,n,r,e⟩:=I.bN p _ h
 exact⟨its,n,r,e,z⟩
theorem Inv.FO {pins:List (Addr × Obj)}{σ:St}{H:Hp}{s:Shared}{p:Addr}{xs ys:List V}{its its':List Value}{n n':Nat}{f:Obj->Obj}(I:Inv X pins σ H s)(h:H p=some (.lst xs))
  (ho:s.heap.get? p=some { cls:=.type "list",data:=.seq its.toArray n }) (hf:f { cls:=.type "list",data:=.seq its.toArray n }={ cls:=.type "list",data:=.seq its'.toArray n' }) (r:Vals ys its') (hz:ys.length<=sizeLine) (t:Nat) :
  Inv X pins σ (upd H p (.lst ys)) { s with heap:=s.heap.update p f,toks:=t }:=by
 have e:(s.heap.update p f).get? p=some { cls:=.type "list",data:=.seq its'.toArray n' }:=by
  rw[Heap.get?_update_self f ho (by rw[hf]<;>rfl),hf]
 refine I.write (x:=p) (e:=p) (by rw[h];trivial) (.inl rfl) (λ b u hb q=>(Heap.get?_update_other _ _ (Ne.symm hb)).trans q) ⟨_,e⟩ ?_
 exact⟨hz,its',n',r,e⟩
def H_:V->V->V->Hp->(Hp->Prop)->Prop:=λ o i v H Q=>∃ p xs k j,o=.ref p/\i=.int k/\H p=some (.lst xs)/\qQ xs.length k=some j/\Q (upd H p (.lst (xs.set j v)))
theorem set_list:Ka X H_:=by
 intro pins s σ H o i v ov iv u Q I ro ri rv h
 obtain⟨p,xs,k,j,rfl,rfl,hp,hj,q⟩:=h
 cases ro
 obtain⟨t,rfl⟩:=ri
 obtain⟨its,n,r,ho,hz⟩:=I.lst hp
 obtain⟨h1,h2,h3,h4⟩:=wq hj
 have hl:=r.length
 have hn:=jV
 have I':Inv X pins σ (upd H p (.lst (xs.set j v))) { s with heap:=s.heap.update p (Obj.mapSeq (·.setIfInBounds j u)) }:=
  I.FO hp ho (uV its n j u) (r.set rv j) (by rw[List.length_set];exact hz) s.toks
 by_cases h0:0<=k
 ·have hk:k.toNat=j:=by
   rw[seqIndex_of h0 h4]at h1
   exact Option.some.inj h1
  exact PySem.W.ki_setAt ho h0 (by omega) (by rw[List.size_toArray,<-hl];exact h4) (by rw[hk];exact⟨_,I',q⟩)
 ·have hk:(k+(its.toArray.size:Int)).toNat=j:=by
   rw[seqIndex_neg (by omega) h3]at h1
   rw[List.size_toArray,<-hl]
   exact Option.some.inj h1
  exact PySem.W.ki_setBack ho (by omega) (by rw[List.size_toArray,<-hl];exact h3) (by omega) (by rw[hk];exact⟨_,I',q⟩)
theorem qD (lo hi:Option Int)(n:Nat):(sliceBounds lo hi none n).1=((HT.cP n 0 lo:Nat):Int)/\(sliceBounds lo hi none n).2.1=((HT.cP n n hi:Nat):Int)/\(sliceBounds lo hi none n).2.2=1:=by
 refine⟨?_,?_,rfl⟩
 ·cases lo with
  | none=>simp[sliceBounds,HT.cP]
  | some i=>
   simp only[sliceBounds,HT.cP,Option.getD_none,show(1:Int) > 0 by decide,if_true]
   by_cases h:i < 0
   ·simp only[h,if_true]<;>omega
   ·simp only[h,if_false]<;>omega
 ·cases hi with
  | none=>simp[sliceBounds,HT.cP]
  | some i=>
   simp only[sliceBounds,HT.cP,Option.getD_none,show(1:Int) > 0 by decide,if_true]
   by_cases h:i < 0
   ·simp only[h,if_true]<;>omega
   ·simp only[h,if_false]<;>omega
theorem o6 (its:List Value)(lo hi:Option Int):slicePick its.toArray lo hi none=((its.drop (HT.cP its.length 0 lo)).take (HT.cP its.length its.length hi - HT.cP its.length 0 lo)).toArray:=by
 obtain⟨h1,h2,h3⟩:=qD lo hi its.toArray.size
 unfold slicePick
 rw[h1,h2,h3]
 simp only[sliceRange_one,pick_run,List.size_toArray]<;>rfl
def Ly (K:PySem.W.Frag):V->Option Int->Option Int->Hp->VK->Prop:=λ x lo hi H Q=>∃ a xs,x=.ref a/\fJ K H a xs/\∀ p,H p=none->Q (.ref p) (upd H p (.lst (oH xs lo hi)))
theorem vH:Hy X (Ly X.K):=by
 intro pins s σ H x v vl vu lo hi sl Q I rx hs pl pu h
 obtain⟨a,xs,rfl,hx,q⟩:=h
 cases rx
 obtain⟨its,r,ht,hz⟩:=I.list hx
 have hlen:=r.length
 refine⟨"list",_,slot_list_getitem.lookup,ht.isList.typeIs,?_⟩
 refine wpAny_getItem_list_slice ht.isList hs pl pu .none (by simp) ?_ (by rw[List.size_toArray]<;>omega)
 rw[o6,<-hlen]
 refine⟨.ref s.heap.objs.size,_,I.laid (t':=s.toks) (o:=.lst (oH xs lo hi)) (λ b ob q=>Heap.get?_push_of_some _ q) (Nat.le_refl _) ?_,rfl,q _ (I.bN.fresh (Nat.le_refl _))⟩
 exact⟨Nat.le_trans (mw xs lo hi) hz,_,0,(r.drop (HT.cP xs.length 0 lo)).take (HT.cP xs.length xs.length hi - HT.cP xs.length 0 lo),Heap.get?_push_size _ rfl⟩
def DI:V->Bool
 | .aY=>true
 | .bl _=>true
 | .int _=>true
 | .str _=>true
 | _=>false
def jA:V->V->Bool
 | .aY,.aY=>true
 | .bl a,.bl b=>a == b
 | .bl a,.int b=>(if a then 1 else 0) == b
 | .int a,.bl b=>a == (if b then 1 else 0)
 | .int a,.int b=>a == b
 | .str a,.str b=>a == b
 | _,_=>false
theorem a8 {A:Around}{s:Shared}{y x:V}{u v:Value}(ry:RelV y u)(rx:RelV x v)(fy:DI y=true)(fx:DI x=true):SeqAt.EqAt A s u v (jA y x):=by
 cases y with
 | aY=>
  cases ry
  cases x with
  | aY=>cases rx;exact SeqAt.EqAt.same _
  | bl b=>cases rx;exact SeqAt.EqAt.none_bool b
  | int b=>obtain⟨t,rfl⟩:=rx;exact SeqAt.EqAt.none_int b t
  | str b=>obtain⟨t,rfl⟩:=rx;exact SeqAt.EqAt.none_str b t
  | _=>exact absurd (show false=true from fx) Bool.false_ne_true
 | bl a=>
  cases ry
  cases x with
  | aY=>cases rx;exact SeqAt.EqAt.bool_none a
  | bl b=>cases rx;exact SeqAt.EqAt.bool_bool a b
  | int b=>obtain⟨t,rfl⟩:=rx;exact SeqAt.EqAt.bool_int a b t
  | str b=>obtain⟨t,rfl⟩:=rx;exact SeqAt.EqAt.bool_str a b t
  | _=>exact absurd (show false=true from fx) Bool.false_ne_true
 | int a=>
  obtain⟨t',rfl⟩:=ry
  cases x with
  | aY=>cases rx;exact SeqAt.EqAt.int_none a t'
  | bl b=>cases rx;exact SeqAt.EqAt.int_bool a t' b
  | int b=>obtain⟨t,rfl⟩:=rx;exact SeqAt.EqAt.int_int a t' b t
  | str b=>obtain⟨t,rfl⟩:=rx;exact SeqAt.EqAt.int_str a t' b t
  | _=>exact absurd (show false=true from fx) Bool.false_ne_true
 | str a=>
  obtain⟨t',rfl⟩:=ry
  cases x with
  | aY=>cases rx;exact SeqAt.EqAt.str_none a t'
  | bl b=>cases rx;exact SeqAt.EqAt.str_bool a t' b
  | int b=>obtain⟨t,rfl⟩:=rx;exact SeqAt.EqAt.str_int a t' b t
  | str b=>obtain⟨t,rfl⟩:=rx;exact SeqAt.EqAt.str_str a t' b t
  | _=>exact absurd (show false=true from fx) Bool.false_ne_true
 | _=>exact absurd (show false=true from fy) Bool.false_ne_true
theorem rH:cg X (.builtin "len") (λ xs H Q=>∃ p ys,xs=[.ref p]/\(fJ X.K H p ys∨gF X.K H p ys)/\Q (.int ys.length) H):=by
 intro pins s σ H xs us Q I r h
 obtain⟨p,ys,rfl,hq,q⟩:=h
 obtain⟨u,rfl,rx⟩:=vals1 r
 cases rx
 have hn:=jV
 rcases hq with hq|hq
 ·obtain⟨its,r',pl,hz⟩:=I.list hq
  have hlen:=r'.length
  exact Calls.call_len_list pl.isList (by simp only[List.size_toArray]<;>omega) ⟨.int ys.length,H,I.tok _,⟨s.toks+1,by rw[List.size_toArray,hlen]⟩,q⟩
 ·obtain⟨its,r',pl,hz⟩:=I.tuple hq
  have hlen:=r'.length
  exact len_tuple pl (by simp only[List.size_toArray]<;>omega) ⟨.int ys.length,H,I.tok _,⟨s.toks+1,by rw[List.size_toArray,hlen]⟩,q⟩
theorem rG:cg X (.builtin "len") (λ xs H Q=>∃ z,xs=[.str z]/\z.length<=sizeLine/\Q (.int z.length) H):=by
 intro pins s σ H xs us Q I r h
 obtain⟨z,rfl,hz,q⟩:=h
 obtain⟨u,rfl,t,rfl⟩:=vals1 r
 have hn:=jV
 exact len_str (by omega) ⟨.int z.length,H,I.tok _,⟨_,rfl⟩,q⟩
theorem rF:cg X (.type "list") (λ xs H Q=>∃ p ys,xs=[.ref p]/\(fJ X.K H p ys∨gF X.K H p ys)/\∀ l,H l=none->Q (.ref l) (upd H l (.lst ys))):=by
 intro pins s σ H xs us Q I r h
 obtain⟨p,ys,rfl,hq,q⟩:=h
 obtain⟨u,rfl,rx⟩:=vals1 r
 cases rx
 have fin:∀ (its:List Value),Vals ys its->ys.length<=sizeLine->∀ (h':Heap) (c':Nat),(∀ b o',s.heap.get? b=some o'->h'.get? b=some o')->
   h'.get? s.heap.objs.size=some { cls:=.type "list",dict:=none,data:=.seq its.toArray c',slots:=#[] }->EP X pins σ Q (.ref s.heap.objs.size) { s with heap:=h' }:=λ its r' hz h' c' kp e=>
  ⟨.ref s.heap.objs.size,_,I.laid (t':=s.toks) kp (Nat.le_refl _) (show b8 X.prog X.w _ h' _ (.lst ys) from⟨hz,its,c',r',e⟩),rfl,q _ (I.bN.fresh (Nat.le_refl _))⟩
 rcases hq with hq|hq
 ·obtain⟨its,r',pl,hz⟩:=I.list hq
  have hlen:=r'.length
  obtain⟨o,ho,hc,n,hd⟩:=pl.isList
  exact call_list_seq p (.inl rfl) ho hc hd (λ h' c' kp e=>fin its r' hz h' c' kp e) (by simp only[List.size_toArray]<;>omega)
 ·obtain⟨its,r',pl,hz⟩:=I.tuple hq
  have hlen:=r'.length
  obtain⟨o,ho,hc,n,hd⟩:=pl
  exact call_list_seq p (.inr rfl) ho hc hd (λ h' c' kp e=>fin its r' hz h' c' kp e) (by simp only[List.size_toArray]<;>omega)
theorem pB:cg X (.type "tuple") (λ xs H Q=>∃ p ys,xs=[.ref p]/\((fJ X.K H p ys/\∀ l,H l=none->Q (.ref l) (upd H l (.tup ys)))∨(gF X.K H p ys/\Q (.ref p) H))):=by
 intro pins s σ H xs us Q I r h
 obtain⟨p,ys,rfl,h⟩:=h
 obtain⟨u,rfl,rx⟩:=vals1 r
 cases rx
 rcases h with⟨hq,q⟩|⟨hq,q⟩
 ·obtain⟨its,r',pl,hz⟩:=I.list hq
  have hlen:=r'.length
  refine call_tuple_list pl.isList (λ h' kp=>?_) (by simp only[List.size_toArray]<;>omega)
  have I1:Inv X pins σ H { s with heap:=h' }:=I.kept (t':=s.toks) kp
  have I2:Inv X pins σ (upd H h'.objs.size (.tup ys)) { s with heap:=h'.push { cls:=.type "tuple",data:=.seq its.toArray } }:=
   I1.laid (t':=s.toks) (λ b o e=>Heap.get?_push_of_some _ e) (Nat.le_refl _) (show b8 X.prog X.w _ _ _ (.tup ys) from⟨hz,its,r',IsTup.new _ _⟩)
  exact⟨.ref h'.objs.size,_,I2,rfl,q _ (I1.bN.fresh (Nat.le_refl _))⟩
 ·obtain⟨its,r',pl,hz⟩:=I.tuple hq
  exact call_tuple_same pl ⟨.ref p,H,I,rfl,q⟩
def Kf (K:PySem.W.Frag)(T:String)(x:V)(H:Hp):Prop:=match x with
 | .str _=>T="str"
 | .int _=>T="int"
 | .ref p=>(T="list"/\∃ xs,fJ K H p xs)∨(T="tuple"/\∃ o,K.lookup p=some o/\o.cls=.type "tuple"/\o.dict=none)∨
   (T="dict"/\((∃ kvs,H p=some (.dK kvs))∨∃ kvs,H p=some (.dT kvs)))∨(T="set"/\∃ S n,H p=some (.set S n))
 | _=>False
theorem uz {pins:List (Addr × Obj)}{σ:St}{H:Hp}{s:Shared}{T:String}{x:V}{v:Value}(I:Inv X pins σ H s)(r:RelV x v)(ty:Kf X.K T x H) :
  s.TypeIs v T/\∀ a,v=.ref a->∃ ob,s.heap.get? a=some ob/\ob.dict=none:=by
 cases x with
 | str z=>
  obtain⟨t,rfl⟩:=r
  cases (show T="str" from ty)
  exact⟨typeIs_str s z t,λ _ e=>nomatch e⟩
 | int i=>
  obtain⟨t,rfl⟩:=r
  cases (show T="int" from ty)
  exact⟨typeIs_int s i t,λ _ e=>nomatch e⟩
 | ref p=>
  cases r
  rcases ty with⟨rfl,xs,hq⟩|⟨rfl,o,hk,hc,hd⟩|⟨rfl,hk⟩|⟨rfl,S,n,hk⟩
  ·obtain⟨its,_,pl,_⟩:=I.list hq
   refine⟨pl.isList.typeIs,λ a e=>?_⟩
   cases e
   obtain⟨o,n,e,c,hd,_⟩:=pl
   exact⟨o,e,hd⟩
  ·refine⟨⟨o,I.lQ p o hk,hc⟩,λ a e=>?_⟩
   cases e
   exact⟨o,I.lQ _ o hk,hd⟩
  ·have z:∃ o,s.heap.get? p=some o/\o.ExactDict:=by
    rcases hk with⟨kvs,hk⟩|⟨kvs,hk⟩
    ·obtain⟨_,_,_,_,o,_,_,e,ex,_⟩:=I.bN p _ hk
     exact⟨o,e,ex⟩
    ·obtain⟨_,_,_,_,o,_,_,e,ex,_⟩:=I.bN p _ hk
     exact⟨o,e,ex⟩
   obtain⟨o,e,ex⟩:=z
   refine⟨⟨o,e,ex.1⟩,λ a e2=>?_⟩
   cases e2
   exact⟨o,e,ex.2.1⟩
  ·obtain⟨o,_,_,_,e,ex,_⟩:=I.bN p _ hk
   refine⟨⟨o,e,ex.1⟩,λ a e2=>?_⟩
   cases e2
   exact⟨o,e,ex.2.1⟩
 | _=>exact False.elim ty
def Lj (K:PySem.W.Frag)(T:String)(r:V->List V->Hp->VK->Prop)(to:TE):TE:=λ σ H Q=>to σ H λ x H1=>Kf K T x H1/\r x [] H1 Q
def Lk (K:PySem.W.Frag)(T:String)(r:V->List V->Hp->VK->Prop)(to:TE)(t:TA):TE:=λ σ H Q=>to σ H λ x H1=>Kf K T x H1/\t σ H1 λ xs H2=>r x xs H2 Q
variable {o e:Expr}{es:List Expr}{to:TE}{t:TA}{name:Str}{apos eR:Pos}{T id:String}{r:V->List V->Hp->VK->Prop}
theorem E1 (pa:PlainAttrs T)(slot:Slot T name id)(Ga:typeOf (.builtin id)=pure (.type "method_descriptor")) (hm:DR X id r)(ho:PE X o to)
  (kY:attributeBase o name X.env (eval o X.env)=eval o X.env:=by rfl) (kX:(apos.endLine == eR.line)=true:=by rfl):PE X (.Call (.Attribute o name apos) [] [] eR) (Lj X.K T r to):=by
 intro pins s σ H Q I h
 refine wpAny_Call_method0_late kY kX (bO (ho pins s σ H _ I h) λ v s1 ⟨x,H1,I1,r1,ty,q1⟩=>?_)
 obtain⟨h1,h2⟩:=uz I1 r1 ty
 exact⟨T,id,pa,slot,Ga,h1,h2,Calls.callWith_builtin rfl (PySem.evalArgs_none (hm pins s1 σ H1 x [] v [] Q I1 r1 .nil q1))⟩
theorem Im (pa:PlainAttrs T)(slot:Slot T name id)(Ga:typeOf (.builtin id)=pure (.type "method_descriptor")) (hm:DR X id r)(ho:PE X o to)(ha:PA X (e :: es) t)
  (kY:attributeBase o name X.env (eval o X.env)=eval o X.env:=by rfl)
  (Aj:((backTo eR (starEach (e :: es) X.env)).all (λ x=>!x.1) && (backToKw eR (keywordEach [] X.env)).all (λ x=>x.1.isSome)
   && decide ((e :: es).length+([]:List Keyword).length+(if ([]:List Keyword).isEmpty then 0 else 1) < 30))=true:=by rfl)
  (kX:(apos.endLine == eR.line)=true:=by rfl) (hs:starEach (e :: es) X.env=(false,eval e X.env) :: starEach es X.env:=by rfl) (oi:(backTo eR (starEach es X.env)).any (·.1)=false:=by rfl) :
  PE X (.Call (.Attribute o name apos) (e :: es) [] eR) (Lk X.K T r to t):=by
 intro pins s σ H Q I h
 refine wpAny_Call_method_late kY Aj kX rfl (bO (ho pins s σ H _ I h) λ v s1 ⟨x,H1,I1,r1,ty,q1⟩=>?_)
 obtain⟨h1,h2⟩:=uz I1 r1 ty
 refine⟨T,id,pa,slot,Ga,h1,h2,?_⟩
 have hA:=ha eR pins s1 σ H1 _ I1 q1
 rw[hs]at hA ⊢
 refine Calls.callWith_builtin (by show(false || (backTo eR (starEach es X.env)).any (·.1))=false;rw[oi]<;>rfl) (Calls.evalArgs_plain ?_)
 exact bO hA λ us s2 ⟨vs,H2,I2,r2,q2⟩=>hm pins s2 σ H2 x vs v us Q I2 r1 r2 q2
end
end L2
namespace L2
open PySem PySem.Spec PyProof.Rows
def OV (X:Cx)(id:String)(r:V->List V->Hp->VK->Prop):Prop:=
 ∀ (pins:List (Addr × Obj)) (s:Shared) (σ:St) (H:Hp) (x:V) (xs:List V) (v:Value) (us:List Value) (Q:VK),Inv X pins σ H s->RelV x v->Vals xs us->r x xs H Q->
  wpAny (model X.prog X.w) X.A (call (.builtin id) (v :: us)) (EP X pins σ Q) X.xe s
theorem Vals.one:∀ {x:V}{us:List Value},Vals [x] us->∃ u,us=[u]/\RelV x u
 | _,_,.cons r .nil=>⟨_,rfl,r⟩
theorem Vals.rep {xs:List V}{us:List Value}(h:Vals xs us):∀ k:Nat,Vals (List.replicate k xs).flatten (List.replicate k us).flatten
 | 0=>.nil
 | k+1=>by
  rw[List.replicate_succ,List.replicate_succ,List.flatten_cons,List.flatten_cons]
  exact Vals.append h (Vals.rep h k)
theorem foldl_rep (its:List Value):∀ (k:Nat) (acc:List Value),
  List.foldl (λ x1 x2=>x1++x2) acc.toArray (List.replicate k its.toArray)=(acc++(List.replicate k its).flatten).toArray
 | 0,acc=>by simp
 | k+1,acc=>by
  have e:acc.toArray++its.toArray=(acc++its).toArray:=by simp
  have e2:(acc++its)++(List.replicate k its).flatten=acc++(List.replicate (k+1) its).flatten:=by
   rw[List.replicate_succ,List.flatten_cons,List.append_assoc]
  rw[<-e2,<-foldl_rep its k (acc++its),<-e,List.replicate_succ,List.foldl_cons]
section
variable {X:Cx}{pins:List (Addr × Obj)}{σ:St}{H:Hp}{s:Shared}{l b:Addr}{xs ys zs:List V}
theorem Inv.Jb {its its':List Value}{n:Nat}{f:Array Value->Array Value}{t':Nat}(I:Inv X pins σ H s)(hH:H l=some (.lst xs))
  (e:s.heap.get? l=some { cls:=.type "list",data:=.seq its.toArray n }) (hf:f its.toArray=its'.toArray) (hv:Vals ys its') (hz:ys.length<=sizeLine) :
  Inv X pins σ (upd H l (.lst ys)) { s with heap:=s.heap.update l (Obj.mapSeq f),toks:=t' }:=by
 have q:=PySem.IsL.update e f
 rw[hf]at q
 refine I.write (x:=l) (e:=l) (by rw[hH];exact trivial) (.inl rfl) (λ b' u hb hu=>(Heap.get?_update_other s.heap (Obj.mapSeq f) (Ne.symm hb)).trans hu) ⟨_,q⟩ ?_
 exact⟨hz,its',_,hv,q⟩
theorem Inv.FQ {its:List Value}{t':Nat}(I:Inv X pins σ H s)(hv:Vals ys its)(hz:ys.length<=sizeLine) :
  Inv X pins σ (upd H s.heap.objs.size (.lst ys)) { s with heap:=s.heap.push { cls:=.type "list",data:=.seq its.toArray },toks:=t' }:=
 I.laid (λ _ _ q=>Heap.get?_push_of_some _ q) (Nat.le_refl _) ⟨hz,its,0,hv,Heap.get?_push_size _ rfl⟩
theorem Inv.fresh (I:Inv X pins σ H s):H s.heap.objs.size=none:=I.bN.fresh (Nat.le_refl _)
theorem Inv.sV (I:Inv X pins σ H s)(hH:H l=some (.lst xs)):xs.length<=sizeLine/\∃ (its:List Value) (n:Nat),Vals xs its/\xs.length=its.length/\s.heap.get? l=some { cls:=.type "list",data:=.seq its.toArray n }:=by
 obtain⟨z,its,n,r,e⟩:=I.bN l _ hH
 exact⟨z,its,n,r,r.length,e⟩
theorem sP {n:Nat}(h:n<=sizeLine):Builtin.List.listTooLong n=false:=by
 unfold Builtin.List.listTooLong
 exact decide_eq_false (by omega)
end
section
variable {X:Cx}
def Bt:V->List V->Hp->VK->Prop:=λ x vs H Q=>∃ l xs y,x=.ref l/\vs=[y]/\H l=some (.lst xs)/\xs.length < sizeLine/\Q .aY (upd H l (.lst (xs++[y])))
theorem pO:OV X "list.append" Bt:=by
 intro pins s σ H x vs v us Q I rx rv h
 obtain⟨l,xs,y,rfl,rfl,hH,hz,q⟩:=h
 cases rx
 obtain⟨u,rfl,ru⟩:=rv.one
 obtain⟨z,its,n,r,hl,e⟩:=I.sV hH
 refine call_meets F.slot_list_append ⟨_,e,rfl⟩ F.entry_list_append (F.args_list_append_2 _ _) (PySem.list_append l its.toArray n u (by rw[List.size_toArray];omega)) ⟨e,?_⟩
 refine⟨.aY,_,I.Jb (its':=its++[u]) hH e (by simp) (r.append (.cons ru .nil)) ?_,rfl,q⟩
 rw[List.length_append,List.length_singleton]
 omega
def Br:V->List V->Hp->VK->Prop:=λ x vs H Q=>∃ l b xs zs,x=.ref l/\vs=[.ref b]/\H l=some (.lst xs)/\H b=some (.lst zs)/\xs.length+zs.length<=sizeLine/\Q .aY (upd H l (.lst (xs++zs)))
theorem Hl:OV X "list.extend" Br:=by
 intro pins s σ H x vs v us Q I rx rv h
 obtain⟨l,b,xs,zs,rfl,rfl,hH,hB,hz,q⟩:=h
 cases rx
 obtain⟨u,rfl,ru⟩:=rv.one
 cases ru
 obtain⟨z,its,n,r,hl,e⟩:=I.sV hH
 obtain⟨z2,cU,n2,r2,qY,e2⟩:=I.sV hB
 have hsz:its.toArray.size+cU.toArray.size<=sizeLine:=by rw[List.size_toArray,List.size_toArray];omega
 have Af:¬ (!its.toArray.isEmpty && Builtin.List.listTooLong (its.toArray.size+cU.toArray.size))=true:=by
  rw[sP hsz,Bool.and_false]
  exact Bool.false_ne_true
 refine call_meets F.slot_list_extend ⟨_,e,rfl⟩ F.entry_list_extend (F.args_list_extend_2 _ _)
  (AutoSeq1.list_extend_list_list_0 l its.toArray n b cU.toArray n2 Af (by rw[List.size_toArray];omega) (by omega)) ⟨e,e2,?_⟩
 refine⟨.aY,_,I.Jb (its':=its++cU) hH e (by simp) (r.append r2) ?_,rfl,q⟩
 rw[List.length_append]
 omega
def LG:R2:=λ x y H Q=>∃ l b xs zs,x=.ref l/\y=.ref b/\H l=some (.lst xs)/\H b=some (.lst zs)/\xs.length+zs.length<=sizeLine/\∀ p,H p=none->Q (.ref p) (upd H p (.lst (xs++zs)))
theorem Ff:e_ X (binaryOp .Add) LG:=by
 intro pins s σ H x y v u Q I rx ry h
 obtain⟨l,b,xs,zs,rfl,rfl,hH,hB,hz,q⟩:=h
 cases rx
 cases ry
 obtain⟨z,its,n,r,hl,e⟩:=I.sV hH
 obtain⟨z2,cU,n2,r2,qY,e2⟩:=I.sV hB
 refine PySem.P.add_list e e2 ?_ (by rw[List.size_toArray,List.size_toArray];omega)
 have ea:its.toArray++cU.toArray=(its++cU).toArray:=by simp
 rw[ea]
 exact⟨.ref _,_,I.FQ (t':=s.toks) (r.append r2) (by rw[List.length_append];omega),rfl,q _ I.fresh⟩
def LA:R2:=λ x y H Q=>∃ l k xs,x=.ref l/\y=.int k/\H l=some (.lst xs)/\-(2 ^ 63)<=k/\k < 2 ^ 63/\xs.length * k.toNat<=sizeLine/\
 ∀ p,H p=none->Q (.ref p) (upd H p (.lst (List.replicate k.toNat xs).flatten))
theorem len_rep {α:Type}(xs:List α)(k:Nat):(List.replicate k xs).flatten.length=k * xs.length:=by
 induction k with
 | zero=>simp
 | succ k ih=>rw[List.replicate_succ,List.flatten_cons,List.length_append,ih,Nat.succ_mul,Nat.add_comm]
theorem E_:e_ X (binaryOp .Mult) LA:=by
 intro pins s σ H x y v u Q I rx ry h
 obtain⟨l,k,xs,rfl,rfl,hH,h1,h2,hz,q⟩:=h
 cases rx
 obtain⟨t,rfl⟩:=ry
 obtain⟨z,its,n,r,hl,e⟩:=I.sV hH
 have hlen:its.toArray.size * k.toNat<=sizeLine:=by rw[List.size_toArray,<-hl];exact hz
 have MK:¬ its.toArray.size * k.toNat > (2 ^ 63 - 1) / 8:=by
  have:(sizeLine:Nat)<=(2 ^ 63 - 1) / 8:=by decide
  omega
 have MF:¬ (!Builtin.List.listFitsIndex k)=true:=by
  rw[fitsIndex_both h1 h2]
  exact Bool.false_ne_true
 have Af:¬ Builtin.List.listTooLong (its.toArray.size * k.toNat)=true:=by
  rw[sP hlen]
  exact Bool.false_ne_true
 have Gn:List.foldl (λ x1 x2=>x1++x2) #[] (List.replicate (if its.toArray.isEmpty=true then 0 else k.toNat) its.toArray)=(List.replicate k.toNat its).flatten.toArray:=by
  have f0:∀ m:Nat,List.foldl (λ x1 x2=>x1++x2) #[] (List.replicate m its.toArray)=(List.replicate m its).flatten.toArray:=λ m=>by
   have:=foldl_rep its m []
   rw[List.nil_append]at this
   exact this
  rw[f0]
  cases its with
  | nil=>simp
  | cons a r'=>rw[if_neg (by simp)]
 refine wpAny_binaryOp_repeat_ref (T:="list") (U:="int") (by decide) ⟨_,e,rfl⟩ (λ s'=>typeIs_int s' k t) noFill_list_mul F.fills_int_mul F.slot_int_rmul repeat_list F.slot_int_index.lookup
  (call_meets F.slot_int_rmul (typeIs_int s k t) F.entry_int_rmul (F.args_int_rmul_2 _ _) (int___rmul___int_list k t l its.toArray n)
   ⟨e,rfl,⟨_,e,rfl⟩,call_meets F.slot_list_mul ⟨_,e,rfl⟩ F.entry_list_mul (F.args_list_mul_2 _ _) (AutoListH.list___mul___list_int_3 l its.toArray n k t MF MK Af) ⟨e,?_⟩⟩)
 rw[Gn]
 exact⟨.ref _,_,I.FQ (t':=s.toks) (r.rep k.toNat) (by rw[len_rep,Nat.mul_comm];exact hz),rfl,q _ I.fresh⟩
end
section
variable {prog:Program}{w:World}{A:Around}{E:Value->Shared->Prop}{s:Shared}
end
section
variable {X:Cx}
end
end L2
namespace L2
open PySem PySem.Spec PyProof.Rows
section
variable {κ:Type} [DecidableEq κ]
def jL (kvs:List (κ × V)) (k:κ):Option V:=(kvs.find? λ kv=>decide (kv.1=k)).map (·.2)
def putK (kvs:List (κ × V)) (k:κ)(v:V):List (κ × V):=
 if (kvs.any λ kv=>decide (kv.1=k))=true then kvs.map (λ kv=>if kv.1=k then (kv.1,v) else kv) else kvs++[(k,v)]
theorem ko {p:κ × V}{r:List (κ × V)}{k:κ}(e:p.1=k):jL (p :: r) k=some p.2:=by simp[jL,List.find?_cons,e]
theorem kq {p:κ × V}{r:List (κ × V)}{k:κ}(e:¬ p.1=k):jL (p :: r) k=jL r k:=by simp[jL,List.find?_cons,e]
theorem sf (k:κ):∀ kvs:List (κ × V),(kvs.any λ kv=>decide (kv.1=k))=(jL kvs k).isSome
 | []=>rfl
 | p :: r=>by
  rw[List.any_cons]
  by_cases e:p.1=k
  ·simp only[ko e,decide_eq_true e,Bool.true_or,Option.isSome_some]
  ·rw[kq e,decide_eq_false e,Bool.false_or];exact sf k r
theorem iZ (kvs:List (κ × V)) (k:κ)(v:V):(putK kvs k v).length<=kvs.length+1:=by
 unfold putK
 split
 ·rw[List.length_map];omega
 ·rw[List.length_append,List.length_cons,List.length_nil];omega
theorem oV.lT {o:Option V}{u:Option Value}(r:oV o u):o.isSome=u.isSome:=by
 cases o with
 | none=>cases u with
  | none=>rfl
  | some _=>exact(show False from r).elim
 | some _=>cases u with
  | none=>exact(show False from r).elim
  | some _=>rfl
theorem KV.val {kvs:List (κ × V)}{vs:List (κ × Value)}(r:KV kvs vs)(k:κ):oV (jL kvs k) (valueAt vs k):=by
 unfold KV at r
 induction r with
 | nil=>exact True.intro
 | @cons p q ps qs h t ih=>
  obtain⟨h1,h2⟩:=h
  by_cases e:p.1=k
  ·have e':q.1=k:=h1.symm.trans e
   have b:valueAt (q :: qs) k=some q.2:=by simp[valueAt,List.find?_cons,e']
   rw[ko e,b];exact h2
  ·have e':¬ q.1=k:=λ z=>e (h1.trans z)
   have b:valueAt (q :: qs) k=valueAt qs k:=by simp[valueAt,List.find?_cons,e']
   rw[kq e,b];exact ih
theorem KV.any {kvs:List (κ × V)}{vs:List (κ × Value)}(r:KV kvs vs)(k:κ):(kvs.any λ kv=>decide (kv.1=k))=vs.any λ kv=>decide (kv.1=k):=by
 unfold KV at r
 induction r with
 | nil=>rfl
 | cons h t ih=>rw[List.any_cons,List.any_cons,ih,h.1]
theorem KV.Ew {kvs:List (κ × V)}{vs:List (κ × Value)}(r:KV kvs vs)(k:κ){y:V}{u:Value}(ry:RelV y u) :
  KV (kvs.map λ kv=>if kv.1=k then (kv.1,y) else kv) (vs.map λ kv=>if kv.1=k then (kv.1,u) else kv):=by
 unfold KV at r ⊢
 induction r with
 | nil=>exact .nil
 | @cons p q ps qs h t ih=>
  rw[List.map_cons,List.map_cons]
  refine .cons ?_ ih
  obtain⟨h1,h2⟩:=h
  by_cases e:p.1=k
  ·rw[if_pos e,if_pos (h1.symm.trans e)];exact⟨h1,ry⟩
  ·rw[if_neg e,if_neg (λ z=>e (h1.trans z))];exact⟨h1,h2⟩
theorem KV.put {kvs:List (κ × V)}{vs:List (κ × Value)}(r:KV kvs vs)(k:κ){y:V}{u:Value}(ry:RelV y u):KV (putK kvs k y) (stored vs k u):=by
 unfold putK stored
 rw[r.any k]
 by_cases e:(vs.any λ kv=>decide (kv.1=k))=true
 ·rw[if_pos e,if_pos e];exact r.Ew k ry
 ·rw[if_neg e,if_neg e];exact Paired.snoc r ⟨rfl,ry⟩
theorem KV.length {kvs:List (κ × V)}{vs:List (κ × Value)}(r:KV kvs vs):kvs.length=vs.length:=Paired.length r
end
theorem tj {P:Program}{w:World}{k:Key}{u:Value}(r:RelV (kV k) u):(bQ P w).is k u=true:=by
 cases k with
 | inl i=>obtain⟨t,e⟩:=(show ∃ t,u=Value.int i t from r);subst e;exact sS P w i t
 | inr x=>obtain⟨t,e⟩:=(show ∃ t,u=Value.str x t from r);subst e;exact sR P w x t
theorem p7 {P:Program}{w:World}:∀ {ks:List Key}{us:List Value},Vals (ks.map kV) us->ItemsAre (bQ P w) ks us
 | [],_,r=>by rw[List.map_nil]at r;cases r;exact .nil
 | k :: ks,_,r=>by
  rw[List.map_cons]at r
  cases r with
  | cons h t=>exact .cons (tj h) (p7 t)
abbrev KT (H:Hp):List (List Key × V)->List (List Key × Addr × Value)->Prop:=Paired λ p q=>p.1=q.1/\H q.2.1=some (.tup (p.1.map kV))/\RelV p.2 q.2.2
theorem KT.val {H:Hp}{kvs:List (List Key × V)}{xs:List (List Key × Addr × Value)}(r:KT H kvs xs)(k:List Key):oV (jL kvs k) ((atKey xs k).map (·.2)):=by
 induction r with
 | nil=>exact True.intro
 | @cons p q ps qs h t ih=>
  obtain⟨h1,_,h2⟩:=h
  by_cases e:p.1=k
  ·have e':q.1=k:=h1.symm.trans e
   have b:atKey (q :: qs) k=some q.2:=by simp[atKey,List.find?_cons,e']
   rw[ko e,b];exact h2
  ·have e':¬ q.1=k:=λ z=>e (h1.trans z)
   have b:atKey (q :: qs) k=atKey qs k:=by simp[atKey,List.find?_cons,e']
   rw[kq e,b];exact ih
theorem KT.Ew {H:Hp}{kvs:List (List Key × V)}{xs:List (List Key × Addr × Value)}(r:KT H kvs xs)(k:List Key){y:V}{u:Value}(ry:RelV y u) :
  KT H (kvs.map λ kv=>if kv.1=k then (kv.1,y) else kv) (xs.map (putAt k u)):=by
 induction r with
 | nil=>exact .nil
 | @cons p q ps qs h t ih=>
  rw[List.map_cons,List.map_cons]
  refine .cons ?_ ih
  obtain⟨h1,h2,h3⟩:=h
  unfold putAt
  by_cases e:p.1=k
  ·rw[if_pos e,if_pos (h1.symm.trans e)];exact⟨h1,h2,ry⟩
  ·rw[if_neg e,if_neg (λ z=>e (h1.trans z))];exact⟨h1,h2,h3⟩
theorem KT.put {H:Hp}{kvs:List (List Key × V)}{xs:List (List Key × Addr × Value)}(r:KT H kvs xs)(k:List Key){b:Addr}{y:V}{u:Value}(hb:H b=some (.tup (k.map kV))) (ry:RelV y u) :
  KT H (putK kvs k y) (storedH xs k b u):=by
 have e:(kvs.any λ kv=>decide (kv.1=k))=(atKey xs k).isSome:=by
  rw[sf,(r.val k).lT,Option.isSome_map]
 unfold putK storedH
 rw[e]
 by_cases q:(atKey xs k).isSome=true
 ·rw[if_pos q,if_pos q];exact r.Ew k ry
 ·rw[if_neg q,if_neg q];exact Paired.snoc r ⟨rfl,hb,ry⟩
theorem KT.keeps {H H':Hp}{kvs:List (List Key × V)}{xs:List (List Key × Addr × Value)}(r:KT H kvs xs)(ht:∀ b ys,H b=some (.tup ys)->H' b=some (.tup ys)):KT H' kvs xs:=
 Paired.FL r λ _ _ z=>⟨z.1,ht _ _ z.2.1,z.2.2⟩
section
variable {P:Program}{w:World}{H:Hp}{h:Heap}{a:Addr}
theorem Dn {u:HO}(ok:j7 P w H h)(e:Rd H a u):b8 P w H h a u:=e.ok ok
theorem wM {kvs:List (Key × V)}(ok:j7 P w H h)(e:Rd H a (.dK kvs)):kvs.length<=sizeLine/\(a == sysModules)=false/\∃ vs,KV kvs vs/\h.DictOf (bQ P w) a vs:=
 show b8 P w H h a (.dK kvs) from Dn ok e
theorem tV {kvs:List (Key × V)}(ok:j7 P w H h)(e:H a=some (.dK kvs)):kvs.length<=sizeLine/\(a == sysModules)=false/\∃ vs,KV kvs vs/\h.DictOf (bQ P w) a vs:=wM ok (.inl e)
theorem qP {ks:List Key}(ok:j7 P w H h)(e:H a=some (.tup (ks.map kV))):(tupleKind (bQ P w)).is h ks a:=by
 obtain⟨_,its,r,o,h1,h2,n,h3⟩:=(show b8 P w H h a (.tup (ks.map kV)) from ok a _ e)
 exact⟨o,its.toArray,n,h1,h2,h3,by simpa using p7 r⟩
theorem wL {kvs:List (List Key × V)}(ok:j7 P w H h)(e:Rd H a (.dT kvs)):kvs.length<=sizeLine/\(a == sysModules)=false/\
  ∃ xs,KT H kvs xs/\h.DictOfH (tupleKind (bQ P w)) a xs:=by
 obtain⟨z,y,xs,r,o,es,ep,h1,h2,h3,h4,h5⟩:=(show b8 P w H h a (.dT kvs) from Dn ok e)
 refine⟨z,y,xs,r,o,es,ep,h1,h2,h3,h4,λ x hx=>?_,h5⟩
 have all:∀ {l:List (List Key × V)}{m:List (List Key × Addr × Value)},KT H l m->∀ x∈m,(tupleKind (bQ P w)).is h x.1 x.2.1:=by
  intro l m q
  induction q with
  | nil=>intro x hx;exact nomatch hx
  | @cons p q ps qs hq t ih=>
   intro x hx
   rcases List.mem_cons.mp hx with e|hx
   ·subst e
    exact qP ok (by rw[<-hq.1];exact hq.2.1)
   ·exact ih x hx
 exact all r x hx
theorem JY {kvs:List (List Key × V)}(ok:j7 P w H h)(e:H a=some (.dT kvs)):kvs.length<=sizeLine/\(a == sysModules)=false/\
  ∃ xs,KT H kvs xs/\h.DictOfH (tupleKind (bQ P w)) a xs:=wL ok (.inl e)
end
def pC (H:Hp)(a:Addr)(y:V)(r:Option V):Prop:=
 (∃ kvs k,Rd H a (.dK kvs)/\y=kV k/\r=jL kvs k)∨∃ kvs k b,Rd H a (.dT kvs)/\y=.ref b/\H b=some (.tup (k.map kV))/\r=jL kvs k
def AW (H:Hp)(a:Addr)(y v:V)(H':Hp):Prop:=
 (∃ kvs k,H a=some (.dK kvs)/\y=kV k/\kvs.length < sizeLine/\H'=upd H a (.dK (putK kvs k v)))∨
 ∃ kvs k b,H a=some (.dT kvs)/\y=.ref b/\H b=some (.tup (k.map kV))/\kvs.length < sizeLine/\H'=upd H a (.dT (putK kvs k v))
theorem pC.k {H:Hp}{a:Addr}{kvs:List (Key × V)}{k:Key}(e:H a=some (.dK kvs)):pC H a (kV k) (jL kvs k):=.inl ⟨kvs,k,.inl e,rfl,rfl⟩
theorem AW.k {H:Hp}{a:Addr}{kvs:List (Key × V)}{k:Key}{v:V}(e:H a=some (.dK kvs)) (hl:kvs.length < sizeLine):AW H a (kV k) v (upd H a (.dK (putK kvs k v))):=.inl ⟨kvs,k,e,rfl,hl,rfl⟩
section
variable {X:Cx}{pins:List (Addr × Obj)}{σ:St}{H:Hp}{s:Shared}{a:Addr}{y v:V}{u r:Value}{o:Option V}{A:Around}{E:Value->Shared->Prop}
theorem Inv.big (I:Inv X pins σ H s):sysModules < s.heap.objs.size:=by
 have h:mainGlobals < s.heap.objs.size:=(I.mod.glob.keeps I.bk).lt
 exact Nat.lt_trans (by decide) h
theorem ye {Q:Value->Shared->Prop}(hu:A.units+1 < cLine)(I:Inv X pins σ H s)(g:pC H a y (some v)) (ry:RelV y u)(h:∀ w' s',Inv X pins σ H s'->RelV v w'->Q w' s') :
  wpAny (model X.prog X.w) A (getItem (.ref a) u) Q E s:=by
 rcases g with⟨kvs,k,e,ey,l⟩|⟨kvs,k,b,e,ey,eb,l⟩
 ·subst ey
  obtain⟨z,hd,vs,rel,dd⟩:=wM I.bN e
  obtain⟨w',hw,sE⟩:=oV.some_of (v:=v) (o:=valueAt vs k) (by rw[l];exact rel.val k)
  exact wpAny_getItem_of (tj ry) dd.mapOf hw (h w' _ (I.tok _) sE)
 ·subst ey
  cases (show u=Value.ref b from ry)
  obtain⟨z,hd,xs,rel,dd⟩:=wL I.bN e
  obtain⟨w',hw,sE⟩:=oV.some_of (v:=v) (o:=(atKey xs k).map (·.2)) (by rw[l];exact rel.val k)
  obtain⟨p,hp,Qg⟩:=Option.map_eq_some_iff.mp hw
  refine wpAny_getItem_heap (tupleKind_room_in1 hu) (qP I.bN eb) dd hp ?_
  rw[Qg]
  exact h w' _ (I.tok _) sE
theorem CV {Q:Value->Shared->Prop}(hu:A.units+1 < cLine)(I:Inv X pins σ H s)(g:pC H a y o)(ry:RelV y u)(h:∀ s',Inv X pins σ H s'->Q (.bool (!o.isSome)) s') :
  wpAny (model X.prog X.w) A (compareOp .NotIn u (.ref a)) Q E s:=by
 rcases g with⟨kvs,k,e,ey,l⟩|⟨kvs,k,b,e,ey,eb,l⟩
 ·subst ey
  obtain⟨z,hd,vs,rel,dd⟩:=wM I.bN e
  refine wpAny_notIn_of (tj ry) hd dd.mapOf ?_
  rw[<-(rel.val k).lT,<-l]
  exact h _ (I.tok _)
 ·subst ey
  cases (show u=Value.ref b from ry)
  obtain⟨z,hd,xs,rel,dd⟩:=wL I.bN e
  refine wpAny_notIn_heap (tupleKind_room_in1 hu) (qP I.bN eb) hd dd ?_
  have q:=(rel.val k).lT
  rw[Option.isSome_map]at q
  rw[<-q,<-l]
  exact h _ (I.tok _)
theorem rC {h':Heap}{t':Nat}{ob:HO}(I:Inv X pins σ H s)(mu:Kb (H a)) (hs:Heap.SameBut a s.heap h')(he:∃ q,h'.get? a=some q)(new:b8 X.prog X.w (upd H a ob) h' a ob) :
  Inv X pins σ (upd H a ob) { s with heap:=h',toks:=t' }:=
 I.write (x:=a) (e:=a) mu (.inl rfl) (λ b q hb z=>(hs.2 b hb).trans z) he new
theorem AF {P:Program}{w:World}{H':Hp}{h':Heap}{kvs:List (Key × V)}{vs:List (Key × Value)}(z:kvs.length<=sizeLine)(hd:(a == sysModules)=false) (rel:KV kvs vs)(dd:h'.DictOf (bQ P w) a vs) :
  b8 P w H' h' a (.dK kvs):=⟨z,hd,vs,rel,dd⟩
theorem yd {H':Hp}{Q:Unit->Shared->Prop}(hu:A.units+1 < cLine)(I:Inv X pins σ H s)(g:AW H a y v H')(ry:RelV y u)(rv:RelV v r)(h:∀ s',Inv X pins σ H' s'->Q () s') :
  wpAny (model X.prog X.w) A (setItem (.ref a) u r) Q E s:=by
 rcases g with⟨kvs,k,e,ey,l,eH⟩|⟨kvs,k,b,e,ey,eb,l,eH⟩
 ·subst ey eH
  obtain⟨z,hd,vs,rel,dd⟩:=tV I.bN e
  have hz:vs.length<=sizeLine:=by rw[<-rel.length];exact z
  have hl:(putK kvs k v).length<=sizeLine:=by have:=iZ kvs k v;omega
  refine wpAny_setItem_pairs (hsz:=hz) (tj ry) dd λ h' GY hs=>h _ ?_
  have he:∃ q,h'.get? a=some q:=let ⟨q,_,_,hq,_⟩:=GY;⟨q,hq⟩
  exact rC I (by rw[e];exact True.intro) hs he (AF hl hd (rel.put k rv) GY)
 ·subst ey eH
  cases (show u=Value.ref b from ry)
  obtain⟨z,hd,xs,rel,dd⟩:=JY I.bN e
  have hz:xs.length<=sizeLine:=by rw[<-Paired.length rel];exact z
  have hl:(putK kvs k v).length<=sizeLine:=by have:=iZ kvs k v;omega
  refine wpAny_setItem_heap (hsz:=hz) (tupleKind_room_in1 hu) (qP I.bN eb) dd λ h' GY hs=>h _ ?_
  obtain⟨q,es,ep,hq,h2,h3,h4,_,h5⟩:=GY
  refine rC I (by rw[e];exact True.intro) hs ⟨q,hq⟩ ⟨hl,hd,_,(rel.put k eb rv).keeps λ c ys ec=>?_,q,es,ep,hq,h2,h3,h4,h5⟩
  rw[aD (nR ec e (λ z=>nomatch z))]
  exact ec
end
section
variable {X:Cx}{pins:List (Addr × Obj)}{σ:St}{H:Hp}{s:Shared}{a:Addr}{kvs:List (Key × V)}{k:Key}{u:Value}{A:Around}{E:Value->Shared->Prop}
end
def Hg (i:Expr):Prop:=∀ ov iv,subscripted i false ov iv=operate [ov,iv] (getItem ov iv)
theorem Bk {prog:Program}{w:World}{A:Around}{E:Value->Shared->Prop}{s:Shared}{env:Env}{value slice:Expr}{pos:Pos}{T id:String}{Q:Value->Shared->Prop}
  (hl:typeLookup (.type T) "__getitem__"=pure (some (.builtin id))) (hs:Hg slice)
  (h:wpAny (model prog w) A (eval value env) (λ o s₁=>wpAny (model prog w) A (eval slice env) (λ i s₂=>s₂.TypeIs o T/\wpAny (model prog w) A (getItem o i) Q E s₂) E s₁) E s) :
  wpAny (model prog w) A (eval (.Subscript value slice pos) env) Q E s:=by
 refine Subscript_ (wpAny_mono h (λ o s₁ h₁=>wpAny_mono h₁ (λ i s₂ h₂=>?_) λ _ _ x=>x) λ _ _ x=>x)
 obtain⟨hT,h₂⟩:=h₂
 unfold subscriptTail
 refine wpAny_bind ?_
 rw[getitemInPython_of_ne hT.not_modules]
 refine wpAny_bind (wpAny_specialOf hT hl ?_)
 have fin:wpAny (model prog w) A (subscripted slice false o i) (λ r s₃=>wpAny (model prog w) A (letTemporaryGo value o r >>= λ _=>pure r) Q E s₃) E s₂:=by
  rw[hs o i]
  exact wpAny_operating (wpAny_mono h₂ (λ r s₃ h₃=>wpAny_bind (wpAny_letTemporaryGo (wpAny_pure h₃))) λ _ _ x=>x)
 first
  | exact wpAny_pure (wpAny_bind fin)
  | exact wpAny_bind (wpAny_pure (wpAny_bind fin))
  | exact wpAny_bind fin
theorem tY {X:Cx}{pins:List (Addr × Obj)}{σ:St}{H:Hp}{s:Shared}{a:Addr}{y:V}{o:Option V}(I:Inv X pins σ H s)(g:pC H a y o):s.TypeIs (.ref a) "dict":=by
 rcases g with⟨kvs,k,e,_,_⟩|⟨kvs,k,b,e,_,_,_⟩
 ·obtain⟨_,_,vs,_,dd⟩:=wM I.bN e
  exact dd.typeIs
 ·obtain⟨_,_,xs,_,dd⟩:=wL I.bN e
  exact dd.typeIs
def HM (td ty:TE):TE:=λ σ H Q=>td σ H λ x H1=>ty σ H1 λ y H2=>∃ a v,x=.ref a/\pC H2 a y (some v)/\Q v H2
def Bh (ty td:TE):TE:=λ σ H Q=>ty σ H λ y H1=>td σ H1 λ x H2=>∃ a o,x=.ref a/\pC H2 a y o/\Q (.bl (!o.isSome)) H2
def HY (td ty tv:TE):TS:=λ D σ H=>tv σ H λ v H1=>td σ H1 λ x H2=>ty σ H2 λ y H3=>∃ a H4,x=.ref a/\AW H3 a y v H4/\D.nx σ H4
section
variable {X:Cx}{o i e value:Expr}{pos pos' uC:Pos}{td ty tv:TE}
theorem BP (hu:X.A.units+1 < cLine)(ho:PE X o td)(hi:PE X i ty)(hs:Hg i):PE X (.Subscript o i pos) (HM td ty):=by
 intro pins s σ H Q I h
 refine Bk PySem.F.slot_dict_getitem.lookup hs (bO (ho pins s σ H _ I h) λ u s1 ⟨x,H1,I1,rx,q1⟩=>bO (hi pins s1 σ H1 _ I1 q1) λ iv s2 ⟨y,H2,I2,ry,a,v,ex,g,q2⟩=>?_)
 subst ex
 obtain rfl:u=Value.ref a:=rx
 exact⟨tY I2 g,ye hu I2 g ry λ w' s3 I3 sE=>⟨v,H2,I3,sE,q2⟩⟩
theorem xC (hu:X.A.units+1 < cLine)(hi:PE X i ty)(ho:PE X o td):PC X .NotIn i o (Bh ty td):=by
 intro pins s σ H Q I h
 refine bO (hi pins s σ H _ I h) λ iv s1 ⟨y,H1,I1,ry,q1⟩=>bO (ho pins s1 σ H1 _ I1 q1) λ u s2 ⟨x,H2,I2,rx,a,ov,ex,g,q2⟩=>?_
 subst ex
 obtain rfl:u=Value.ref a:=rx
 exact CV hu I2 g ry λ s3 I3=>⟨.bl (!ov.isSome),H2,I3,rfl,q2⟩
theorem BB (hu:X.A.units+1 < cLine)(ho:PE X o td)(hi:PE X i ty)(hv:PE X value tv)(hs:swapsWith value (some (.Subscript o i pos')) pos.line X.env=pure false) :
  PS X (.Assign [.Subscript o i pos'] value pos) (HY td ty tv):=by
 intro pins s σ H D I h
 refine wpAny_Assign_Subscript (bO (hv pins s σ H _ I h) λ r s1 ⟨v,H1,I1,rv,q1⟩=>bO (ho pins s1 σ H1 _ I1 q1) λ u s2 ⟨x,H2,I2,rx,q2⟩=>bO (hi pins s2 σ H2 _ I2 q2) λ iv s3 ⟨y,H3,I3,ry,a,H4,ex,g,q3⟩=>?_) hs
 subst ex
 obtain rfl:u=Value.ref a:=rx
 exact yd hu I3 g ry rv λ s4 I4=>⟨σ,H4,I4,q3⟩
end
theorem tX {P:Program}{w:World}{H:Hp}(h:Heap)(hb:sysModules < h.objs.size):b8 P w H (h.push { cls:=.type "dict",data:=.dict #[] }) h.objs.size (.dK []):=
 ⟨Nat.zero_le _,beq_eq_false_iff_ne.mpr (Ne.symm (Nat.ne_of_lt hb)),[],.nil,Heap.DictOf.new h⟩
def Eh:TE:=λ _ H Q=>∀ p,H p=none->Q (.ref p) (upd H p (.dK []))
section
variable {X:Cx}{pos:Pos}
theorem ze:PE X (.Dict [] [] pos) Eh:=λ pins s σ H Q I h=>
 wpAny_Dict_empty ⟨.ref s.heap.objs.size,_,I.laid (a:=s.heap.objs.size) (o:=.dK []) (t':=s.toks) (λ _ _ q=>Heap.get?_push_of_some _ q) (Nat.le_refl _) (tX s.heap I.big),rfl,h _ (I.bN.fresh (Nat.le_refl _))⟩
end
def qB:List (TE × TE)->St->Hp->(List (V × V)->Hp->Prop)->Prop
 | [],_,H,Q=>Q [] H
 | (tk,tv) :: r,σ,H,Q=>tk σ H λ x H1=>tv σ H1 λ y H2=>qB r σ H2 λ ps H3=>Q ((x,y) :: ps) H3
abbrev VV:List (V × V)->List (Value × Value)->Prop:=Paired λ p q=>RelV p.1 q.1/\RelV p.2 q.2
def DP (X:Cx)(pos:Pos)(keys:List (Option Expr)) (values:List Expr)(Ba:List (TE × TE)):Prop:=
 ∀ (pins:List (Addr × Obj)) (s:Shared) (σ:St) (H:Hp) (Q:List (V × V)->Hp->Prop),Inv X pins σ H s->qB Ba σ H Q->
  wpAny (model X.prog X.w) X.A (evalPairs (pairTrees keys values X.env pos)) (λ vs s'=>∃ ps H',Inv X pins σ H' s'/\VV ps vs/\Q ps H') X.xe s
theorem BD {X:Cx}{pos:Pos}:DP X pos [] [] []:=λ pins s σ H Q I h=>pairTrees_nil_walk ⟨[],H,I,.nil,h⟩
theorem y6 {X:Cx}{pos:Pos}{k v:Expr}{ks:List (Option Expr)}{vs:List Expr}{tk tv:TE}{Ba:List (TE × TE)}(hk:PE X k tk)(hv:PE X v tv)(hr:DP X pos ks vs Ba) :
  DP X pos (some k :: ks) (v :: vs) ((tk,tv) :: Ba):=λ pins s σ H Q I h=>
 pairTrees_cons_walk (bO (hk pins s σ H _ I h) λ u s1 ⟨x,H1,I1,rx,q1⟩=>bO (hv pins s1 σ H1 _ I1 q1) λ w2 s2 ⟨y,H2,I2,ry,q2⟩=>
  bO (hr pins s2 σ H2 _ I2 q2) λ ws s3 ⟨ps,H3,I3,rel,q3⟩=>⟨(x,y) :: ps,H3,I3,.cons ⟨rx,ry⟩ rel,q3⟩)
def eO (kvs more:List (Key × V)):List (Key × V):=more.foldl (λ acc kv=>putK acc kv.1 kv.2) kvs
theorem KV.merge:∀ {more:List (Key × V)}{rs:List (Key × Value)}{kvs:List (Key × V)}{vs:List (Key × Value)},KV more rs->KV kvs vs->KV (eO kvs more) (merged vs rs):=by
 intro more rs kvs vs r
 unfold KV at r
 induction r generalizing kvs vs with
 | nil=>intro q;exact q
 | @cons p q ps qs h t ih=>
  intro r0
  have e:KV (putK kvs p.1 p.2) (stored vs q.1 q.2):=by
   have:=r0.put p.1 h.2
   rw[<-h.1];exact this
  exact ih e
theorem jE:∀ (more kvs:List (Key × V)),(eO kvs more).length<=kvs.length+more.length
 | [],kvs=>by show kvs.length<=kvs.length+0;omega
 | p :: r,kvs=>by
  have h1:=jE r (putK kvs p.1 p.2)
  have h2:=iZ kvs p.1 p.2
  show(eO (putK kvs p.1 p.2) r).length<=_
  rw[List.length_cons];omega
theorem oK {P:Program}{w:World}:∀ {kvs:List (Key × V)}{ws:List (Value × Value)},VV (kvs.map λ kv=>(kV kv.1,kv.2)) ws->∃ rs,Carries (bQ P w) ws rs/\KV kvs rs
 | [],_,r=>by rw[List.map_nil]at r;cases r;exact⟨[],True.intro,.nil⟩
 | p :: kvs,_,r=>by
  rw[List.map_cons]at r
  cases r with
  | @cons a b as bs h t=>
   obtain⟨rs,c,q⟩:=oK (P:=P) (w:=w) t
   obtain⟨b1,b2⟩:=b
   exact⟨(p.1,b2) :: rs,⟨tj h.1,rfl,c⟩,.cons ⟨rfl,h.2⟩ q⟩
def HL (Ba:List (TE × TE)):TE:=λ σ H Q=>∀ p,H p=none->qB Ba σ (upd H p (.dK [])) λ ps H2=>H2 p=some (.dK [])/\∃ kvs:List (Key × V),ps=kvs.map (λ kv=>(kV kv.1,kv.2))/\kvs.length<=15/\Q (.ref p) (upd H2 p (.dK (eO [] kvs)))
theorem BO {X:Cx}{pos:Pos}{keys:List (Option Expr)}{values:List Expr}{Ba:List (TE × TE)}(h:DP X pos keys values Ba)(Al:keys.all (·.isSome)=true) (hl:keys.length=values.length)(h0:keys≠[])
  (MT:keys.length<=15):PE X (.Dict keys values pos) (HL Ba):=by
 intro pins s σ H Q I q
 have hn:=I.bN.fresh (Nat.le_refl s.heap.objs.size)
 have I1:=I.laid (a:=s.heap.objs.size) (o:=.dK []) (h':=s.heap.push { cls:=.type "dict",data:=.dict #[] }) (t':=s.toks) (λ _ _ q=>Heap.get?_push_of_some _ q) (Nat.le_refl _) (tX s.heap I.big)
 refine wpAny_Dict_walk (knd:=bQ X.prog X.w) Al hl h0 MT (bO (h pins _ σ _ _ I1 (q _ hn)) λ ws s2 ⟨ps,H2,I2,rel,e,kvs,ep,lk,q2⟩=>?_)
 subst ep
 obtain⟨rs,c,rk⟩:=oK (P:=X.prog) (w:=X.w) rel
 obtain⟨z,hd,Ru,r0,dd⟩:=tV I2.bN e
 cases r0
 refine⟨rs,c,dd,λ h' GY hs=>⟨.ref s.heap.objs.size,_,?_,rfl,q2⟩⟩
 have hz:(eO [] kvs).length<=sizeLine:=by
  have h1:=jE kvs []
  rw[List.length_nil]at h1
  rw[sizeLine_eq];omega
 have he:∃ q,h'.get? s.heap.objs.size=some q:=let ⟨q,_,_,hq,_⟩:=GY;⟨q,hq⟩
 exact rC I2 (by rw[e];exact True.intro) hs he (AF hz hd (rk.merge .nil) GY)
structure M2 (X:Cx)(o:Expr)(m:Str)(apos:Pos)(e f:Expr)(eR:Pos):Prop where
 base:attributeBase o m X.env (eval o X.env)=eval o X.env
 RU:((backTo eR (starEach [e,f] X.env)).all (λ x=>!x.1) && (backToKw eR (keywordEach [] X.env)).all (λ x=>x.1.isSome)
  && decide (([e,f]:List Expr).length+([]:List Keyword).length+(if ([]:List Keyword).isEmpty then 0 else 1) < 30))=true
 line:(apos.endLine == eR.line)=true
 trees:backTo eR (starEach [e,f] X.env)=[(false,eval e X.env),(false,eval f X.env)]
section
variable {X:Cx}{pins:List (Addr × Obj)}{σ:St}{H:Hp}{s:Shared}{a:Addr}{y d:V}{u r:Value}{o:Option V}{A:Around}{E:Value->Shared->Prop}
end
section
variable {X:Cx}{o e f:Expr}{apos eR:Pos}{td ty tx:TE}
end
section
variable {X:Cx}{pins:List (Addr × Obj)}{σ:St}{H:Hp}{s:Shared}{a:Addr}{kvs:List (Key × V)}{A:Around}{E:Value->Shared->Prop}
end
section
variable {X:Cx}{pins:List (Addr × Obj)}{σ:St}{H:Hp}{s:Shared}{a:Addr}{y:V}{u:Value}{A:Around}{E:Value->Shared->Prop}
end
end L2
namespace OW
open PySem PySem.W PySem.Calls PyProof.Rows
theorem mE {P:Params}{h:Heap}:∀ (ns:List Int) (vs:List Value),WellAll P h vs (ns.map WData.int)->IntsAre vs ns:=by
 intro ns
 induction ns with
 | nil=>
  intro vs w
  rw[List.map_nil]at w
  cases w
  exact .nil
 | cons n ns ih=>
  intro vs w
  rw[List.map_cons]at w
  cases w with
  | cons a b=>
   cases a
   exact .cons _ _ (ih _ b)
theorem xq {l:OpenLaw}{n:Nat}(hn:l.most=some n){P:Params}{h:Heap}{args:List WData}{vals:List Value}
  (CC:l.row.toRowW.claim.pre args=true) (Mg:WellAll P h vals args) :
  ∃ a vs ns,vals=[Value.ref a]/\args=[WData.list (ns.map WData.int)]/\h.get? a=some { cls:=.type "list",data:=.seq vs.toArray }/\IntsAre vs ns/\ns.length<=n:=by
 have P':WShape.hasAll [] args [.list .int]=true:=(pre_splitW CC).1
 have hc:l.pre.holds [] { args:=args }=true:=(pre_splitW CC).2
 obtain⟨d,r,rfl,h1,h2⟩:=hasAllW_cons P'
 obtain rfl:=hasAllW_nil h2
 obtain⟨xs,rfl,h3⟩:=hasW_list h1
 obtain⟨ns,rfl⟩:=items_int h3
 have hlen:ns.length<=n:=by
  unfold OpenLaw.pre at hc
  have h4:(WTm.not (.lt (.lit (.int (n:Int))) (.len (.arg 0)))).holds [] { args:=[.list (ns.map .int)] }=true:=by
   have h4:=(holds_andW hc).1
   rw[hn]at h4
   exact h4
  have h5:=condW_of h4 (w_not (w_lt w_lit (w_len_list (w_arg rfl))))
  rw[List.length_map]at h5
  refine Nat.le_of_not_lt λ q=>?_
  have q':(n:Int) < ((ns.length:Nat):Int):=by omega
  first
   | (rw[decide_eq_true q']at h5;exact absurd h5 (by decide))
   | (simp at h5;omega)
 cases Mg with
 | cons w1 w2=>
  cases w2
  cases w1 with
  | list ho Al=>exact⟨_,_,ns,rfl,rfl,ho,mE ns _ Al,hlen⟩
theorem xy (l:OpenLaw)(args:List WData):l.row.toRowW.claim.post args (.bool true) args=true:=
 postW_of (r:=l.row.toRowW) (X:=(true == true))
  (show WShape.has [] (.bool true) .bool=true by first|rfl|decide|simp[WShape.has,WShape.arms,WShape.armsAll])
  (show(WTm.eq .res (.lit (.bool true))).value [] { args:=args,res:=some (.bool true),after:=args }=some (.bool (true == true)) from w_eq_bool (w_res rfl) w_lit) rfl
theorem ui {l:OpenLaw}{n:Nat}{q:Program}{loose:List Str}{XP:(Str->Option Value)->Heap->Prop}{YP:World->Heap->Prop}{d:DefRec}
  (hn:l.most=some n) (JC:d.params.defaults=[])
  (call:∀ (w:World) (fY s₁:Shared) (mg mb:Str->Option Value) (fa:Addr) (o:Obj) (pm cd doc:Value) (a:Addr) (vs:List Value) (ns:List Int),
   Ground q loose [] XP w fY mg mb s₁.heap->YP w s₁.heap->
   s₁.heap.get? fa=some o->o.data=.func (docDef d.name d.params d.body d.scope pm cd doc)->s₁.heap.CodeRec cd d.name->mg d.name=some (.ref fa)->
   s₁.heap.get? a=some { cls:=.type "list",data:=.seq vs.toArray }->IntsAre vs ns->ns.length<=n->s₁.gens=#[]->
   codeAny (model l.prog w) callerA (.call (.ref fa) ⟨[.ref a],[]⟩) (λ r s'=>r=.ok (.ret (.bool true))/\OldK s₁.heap s'.heap/\s'.os=s₁.os/\AllBare s'.gens) s₁) :
  WalkO q loose XP YP l.row.toRowW d [] (λ f vs=>PySem.call f vs):=by
 intro w fY s₁ mg mb G Y fa o pm cd doc dV kV ho hd yn hD Jt hg args vals as CC Qs RM Mg RO
 obtain rfl:dV=.none:=Dflts.none hD JC
 obtain rfl:kV=.none:=Dflts.noKw hD
 obtain⟨a,vs,ns,rfl,rfl,Gj,hints,hlen⟩:=xq hn CC Mg
 refine enter_call (codeAny_mono (call w fY s₁ mg mb fa o pm cd doc a vs ns G Y ho (fd_plain hd) yn Jt Gj hints hlen hg) λ r s' hq=>?_)
 obtain⟨rfl,h2,h3,h4⟩:=hq
 exact⟨.inl ⟨.bool true,.bool true,[],rfl,λ _=>rfl,.bool true,xy l _,λ _=>⟨List.Pairwise.nil,λ _ hm=>(nomatch hm)⟩⟩,h2,h3,h4⟩
section
variable {prog:Program}{w:World}{A:Around}{E:Value->Shared->Prop}{s:Shared}{K:Frag}
end
end OW
namespace L2
open PySem PySem.Spec PyProof.Rows
theorem pE:∀ {vs:List Value}{ns:List Int},IntsAre vs ns->Vals (ns.map V.int) vs
 | _,_,.nil=>.nil
 | _,_,.cons n t h=>.cons ⟨t,rfl⟩ (pE h)
def C9 (H:Hp):Prop:=∀ b,H b=none∨∃ o xs,H b=some (.qc o (.lst xs))
theorem zS {P:Program}{w:World}{K:PySem.W.Frag}{mg mb:Str->Option Value}{CX:AY}{k:Nat}{fa a:Addr}{fd:FuncData}{x:Str}{sp:Sp}{s₁:Shared}{vs:List Value}{ns:List Int}
  (KX:K.In s₁.heap) (Ky:s₁.heap.Ns mainGlobals mg) (hb:s₁.heap.Ns builtinsNs mb) (QH:∀ x:Str,x≠"__name__"->mb x=bootBuiltins x) (My:s₁.heap.NoLimit) (QE:s₁.heap.NoDigits) (QF:∃ bm ob,mg "__builtins__"=some (.ref bm)/\bm≠builtinsNs/\s₁.heap.get? bm=some ob/\ob.cls=.type "module"/\ob.dict=some builtinsNs/\ob.data=.plain) (hg:s₁.gens=#[])
  (ha:s₁.heap.get? a=some { cls:=.type "list",data:=.seq vs.toArray }) (hi:IntsAre vs ns) (hl:ns.length<=sizeLine) (hr:fK k callerA)
  (F:∀ base:Heap,K.In base->base.Ns mainGlobals mg->j_ P w K mg base CX k fa fd [x] sp) (JG:∀ (s:Shared) (u:Value),BindsTo s fd ⟨[u],[]⟩ [(x,u)])
  (DA:∀ H:Hp,C9 H->fJ K H a (ns.map V.int)->sp [.ref a] H (λ v _=>v=.bl true) λ _ _ _=>False)
  (MR:∀ H e s',CX [] H s₁ (λ _ _ _=>False) e s'->False) :
  codeAny (model P w) callerA (.call (.ref fa) ⟨[.ref a],[]⟩) (λ r s'=>r=.ok (.ret (.bool true))/\OldK s₁.heap s'.heap/\s'.os=s₁.os/\AllBare s'.gens) s₁:=by
 have rv:=pE hi
 have lenV:=hi.length
 have core:∀ H:Hp,C9 H->fJ K H a (ns.map V.int)->j7 P w H s₁.heap->(∀ b,H b≠none->b=a)->(H a≠none->K.lookup a=none)->
   codeAny (model P w) callerA (.call (.ref fa) ⟨[.ref a],[]⟩) (λ r s'=>r=.ok (.ret (.bool true))/\OldK s₁.heap s'.heap/\s'.os=s₁.os/\AllBare s'.gens) s₁:=by
  intro H hO hS bN hA hK
  have base_of:∀ {b:Addr}{o:Obj},s₁.heap.get? b=some o->H b=none->(qZ s₁.heap H).get? b=some o:=λ e n=>Ai e n
  have noA:∀ {b:Addr}{o:Obj}{es:Array DictEntry}{ep:Nat},s₁.heap.get? b=some o->o.data=.dict es ep->H b=none:=λ {b o es ep} e d=>by
   cases q:H b with
   | none=>rfl
   | some u=>
    have e':b=a:=hA b (by rw[q];simp)
    subst e'
    rw[ha]at e;cases e
    have d':Data.seq vs.toArray _=Data.dict es ep:=d
    cases d'
  have nsK:∀ {b:Addr}{m:Str->Option Value},s₁.heap.Ns b m->(qZ s₁.heap H).Ns b m:=λ {b m} ⟨o,es,ep,e,d,r⟩=>⟨o,es,ep,base_of e (noA e d),d,r⟩
  have Oz:K.In (qZ s₁.heap H):=λ b o e=>base_of (KX b o e) (by
   cases q:H b with
   | none=>rfl
   | some u=>
    have e':b=a:=hA b (by rw[q];simp)
    subst e'
    rw[hK (by rw[q];simp)]at e;cases e)
  have hM:Mod K mg (qZ s₁.heap H):=⟨Oz,nsK Ky,⟨mb,nsK hb,QH⟩,let ⟨mc,h1,h2⟩:=My;⟨mc,nsK h1,h2⟩,let ⟨mc,h1,h2⟩:=QE;⟨mc,nsK h1,h2⟩,
   let ⟨bm,ob,b1,b2,b3,b4,b5,b6⟩:=QF;⟨bm,ob,b1,b2,base_of b3 (by
    cases q:H bm with
    | none=>rfl
    | some u=>
     have e':bm=a:=hA bm (by rw[q];simp)
     subst e'
     rw[ha]at b3;cases b3;cases b6),b4,b5,b6⟩⟩
  have e0:C' P w K mg (qZ s₁.heap H) callerA [] s₁ H:=⟨rfl,hM,λ b o e=>B5 e,Nat.le_of_eq (xU _ _),trivial,λ b hb=>absurd (show b∈([]:List Addr) from hb) (by simp),bN,.of_eq hg⟩
  refine codeAny_mono ((F _ Oz (nsK Ky)).run callerA [] s₁ H ⟨[.ref a],[]⟩ [.ref a] [.ref a] _ _ hr e0 (JG s₁ (.ref a)) (.cons rfl .nil) (DA H hO hS)) λ r s' h=>?_
  cases r with
  | error e=>exact(MR H e s' h).elim
  | ok fl=>
   cases fl with
   | next=>exact False.elim h
   | brk=>exact False.elim h
   | cont=>exact False.elim h
   | ret u=>
    obtain⟨v,H',os,bare,un,Mv,r',q⟩:=h
    have q':v=.bl true:=q
    subst q'
    obtain rfl:u=Value.bool true:=r'
    refine⟨rfl,OldK.of_keep λ b o e=>?_,os,bare⟩
    cases q:H b with
    | none=>exact un.keep b o e q (by intro z;exact absurd (show b∈([]:List Addr) from z) (by simp)) (by simp)
    | some u=>
     rcases hO b with z|⟨ob,xs,z⟩
     ·rw[q]at z;cases z
     ·have z2:=un.iz b ob _ z
      obtain⟨e1,_⟩:=bN b _ z
      obtain⟨e2,_⟩:=Mv b _ z2
      rw[e]at e1;cases e1
      exact e2
 cases hk:K.lookup a with
 | some o=>
  have e:=KX a o hk
  rw[ha]at e
  cases e
  refine core (λ _=>none) (λ _=>.inl rfl) (.inr ⟨_,vs.toArray,_,hk,rfl,rfl,rfl,by rw[List.size_toArray,lenV];exact hl,by simpa using rv⟩) (λ b u z=>by have z':(none:Option HO)=some u:=z;cases z') (λ b z=>absurd rfl z) λ z=>absurd rfl z
 | none=>
  refine core (λ b=>if b=a then some (.qc { cls:=.type "list",data:=.seq vs.toArray } (.lst (ns.map V.int))) else none) (λ b=>?_) (.inl (.inr ⟨{ cls:=.type "list",data:=.seq vs.toArray },if_pos rfl⟩)) (λ b u z=>?_) (λ b z=>?_) λ _=>hk
  ·by_cases hb:b=a
   ·exact .inr ⟨_,_,if_pos hb⟩
   ·exact .inl (if_neg hb)
  ·by_cases hb:b=a
   ·have z':=(if_pos hb).symm.trans z
    cases z'
    subst hb
    exact⟨ha,by rw[List.length_map];exact hl,vs,_,rv,ha⟩
   ·have z':=(if_neg hb).symm.trans z
    cases z'
  ·by_cases hb:b=a
   ·exact hb
   ·exact absurd (if_neg hb) z
end L2
namespace L2
open PySem PySem.Spec PyProof.Rows
theorem A8 {l:PySem.W.OpenLaw}{n k:Nat}{q:Program}{loose:List Str}{XP:(Str->Option Value)->Heap->Prop}{YP:World->Heap->Prop}{d:DefRec}{K:Params->PySem.W.Frag}{CX:World->AY}{sp:World->Sp}{x:Str}
  (hn:l.most=some n) (Qp:n<=sizeLine) (JC:d.params.defaults=[]) (hr:fK k callerA)
  (hY:∀ (w:World) (h:Heap),YP w h->(K w.params).In h)
  (F:∀ (w:World) (mg:Str->Option Value) (fa:Addr) (h:Heap),(K w.params).In h->h.Ns mainGlobals mg->mg d.name=some (.ref fa)->
   ∃ fd:FuncData,(∀ (s:Shared) (u:Value),BindsTo s fd ⟨[u],[]⟩ [(x,u)])/\
    ∀ base:Heap,(K w.params).In base->base.Ns mainGlobals mg->j_ l.prog w (K w.params) mg base (CX w) k fa fd [x] (sp w))
  (DA:∀ (w:World) (H:Hp) (a:Addr) (ns:List Int),ns.length<=n->C9 H->fJ (K w.params) H a (ns.map V.int)->sp w [.ref a] H (λ v _=>v=.bl true) λ _ _ _=>False)
  (MR:∀ (w:World) (H:Hp) (s:Shared) (e:Value) (s':Shared),CX w [] H s (λ _ _ _=>False) e s'->False) :
  PySem.W.WalkO q loose XP YP l.row.toRowW d [] (λ f vs=>PySem.call f vs):=by
 refine OW.ui hn JC λ w fY s₁ mg mb fa o pm cd doc a vs ns G Y ho hd yn Jt Gj hints hlen hg=>?_
 have KX:=hY w _ Y
 obtain⟨fd,hb,hF⟩:=F w mg fa _ KX G.T.g Jt
 exact zS KX G.T.g G.T.b G.T.builtins G.T.nolimit G.T.nodigits G.T.bmain hg Gj hints (Nat.le_trans hlen Qp) hr hF hb (λ H hO hS=>DA w H a ns hlen hO hS) λ H e s'=>MR w H s₁ e s'
end L2
namespace L2
open PySem PySem.Spec PyProof.Rows
def iD (s:Stmt):Arguments:=match s with
 | .FunctionDef _ a _ _ _ _ _ _ _ _=>a
 | _=>{ posonlyargs:=[],args:=[],vararg:=none,kwonlyargs:=[],kw_defaults:=[],kwarg:=none,defaults:=[] }
def eZ (s:Stmt):List Stmt:=match s with
 | .FunctionDef _ _ b _ _ _ _ _ _ _=>b
 | _=>[]
def bJ (s:Stmt):Scope:=match s with
 | .FunctionDef _ _ _ _ _ _ sc _ _ _=>sc
 | _=>{ kind:=.function,names:=[],isGenerator:=false,isCoroutine:=false }
abbrev vv:AY:=λ _ _ _ _ _ _=>False
abbrev E0:XK:=λ _ _ _=>False
theorem Ip {X:Cx}:Passes vv X E0:=λ _ _ _ _ _ _ _ h=>h.elim
structure A5 (K:PySem.W.Frag)(x qual:Str)(st:Stmt)(f:Addr)(fd:FuncData):Prop where
 ex:∃ (oc:Value) (od:Option Addr) (kV doc pm:Value) (an:Option Addr) (gR ct:Value) (vX:Array (Option Value)),
  fd=PySem.W.fnOf x qual (iD st) (eZ st) (bJ st) .none kV doc pm an gR ct/\K.lookup f=some ⟨oc,od,.func fd,vX⟩/\PySem.W.codeIn K gR qual=true
 kp:PySem.W.keepIn K (.ref f)=true
section
variable {P:Program}{w:World}{K:PySem.W.Frag}{mg:Str->Option Value}{base:Heap}
theorem A5.ok {x qual:Str}{st:Stmt}{f:Addr}{fd:FuncData}{N ps:List Str}{k:Nat}{sp:Sp}(F:A5 K x qual st f fd)(S:jt N ps (bJ st)) (len:∀ vs H Q E,sp vs H Q E->vs.length=ps.length)
  (Ak:∀ (gR:Value) (A:Around) (outer:List Env) (s:Shared) (H:Hp) (vs:List V) (Q:VK) (E:XK),fK k (A.deeper (envOfC qual (bJ st) s.heap.objs.size f gR))->sp vs H Q E->
   ∃ t,ke (ua vv P w K mg base N qual (bJ st) f gR A outer s H E).Hk (eZ st) t/\t { nx:=λ _ H'=>Q .aY H',rt:=Q } (start N vs) H):j_ P w K mg base vv (k+1) f fd ps sp:=by
 obtain⟨oc,od,kV,doc,pm,an,gR,ct,vX,rfl,lk,yn⟩:=F.ex
 refine JR lk yn S len λ A outer s H vs Q E hr DA=>?_
 obtain⟨t,h,q⟩:=Ak gR A outer s H vs Q E hr DA
 exact⟨t,h.Hk,q⟩
theorem A5.binds {x qual:Str}{st:Stmt}{f:Addr}{fd:FuncData}{ps:List Str}(F:A5 K x qual st f fd)
  (h:∀ (kV doc pm:Value) (an:Option Addr) (gR ct:Value) (us:List Value),us.length=ps.length->bindArgs (PySem.W.fnOf x qual (iD st) (eZ st) (bJ st) .none kV doc pm an gR ct) ⟨us,[]⟩=pure (ps.zip us)):Binds K fd ps []:=by
 obtain⟨oc,od,kV,doc,pm,an,gR,ct,vX,rfl,lk,yn⟩:=F.ex
 exact .all (h kV doc pm an gR ct)
theorem GD {x qual:Str}{st:Stmt}{f:Addr}{oc:Value}{od an:Option Addr}{vX:Array (Option Value)}{kV doc pm gR ct:Value}(l:K.lookup f=some ⟨oc,od,.func (PySem.W.fnOf x qual (iD st) (eZ st) (bJ st) .none kV doc pm an gR ct),vX⟩)
  (c:PySem.W.codeIn K gR qual=true) (k:PySem.W.keepIn K (.ref f)=true):A5 K x qual st f (PySem.W.fnOf x qual (iD st) (eZ st) (bJ st) .none kV doc pm an gR ct):=⟨⟨oc,od,kV,doc,pm,an,gR,ct,vX,rfl,l,c⟩,k⟩
end
theorem Jn {A:Around}{k:Nat}(hr:fK k A):A.units+1 < cLine:=Nat.lt_of_le_of_lt (Nat.add_le_add_left (by decide:1<=64) _) hr.units
theorem a4 {n:Nat}(h:n<=1000):n < sizeLine:=Nat.lt_of_le_of_lt h (by decide)
section
variable {X:Cx}
theorem pv (i:Nat){x:Str}{pos:Pos}(hN:X.N[i]? = some x:=by rfl)(hv:Nz X.env.scope x:=by first|exact Or.inl rfl|exact Or.inr (Or.inl rfl)|exact Or.inr (Or.inr rfl)) (hd:(x == ("__debug__":Str))=false:=by decide)
  (yn:(x == ("__classdict__":Str))=false:=by decide):PE X (.Name x pos) (Eg i):=EO hN hv hd yn
end
section
variable {κ:Type} [DecidableEq κ]
end
end L2
set_option maxHeartbeats 4000000
namespace L2
open PySem PySem.Spec PyProof.Rows
def gD (X:Cx)(scope:Scope):List (Str × Option Nat)->Prop
 | []=>True
 | (_,none) :: r=>gD X scope r
 | (x,some j) :: r=>(X.N[j]? = some x/\scope.names.lookup x=some .free/\(X.env.kindOf x=some .cell∨X.env.kindOf x=some .free))/\gD X scope r
def uI (l:List (Str × Option Nat)) (σ:St):St:=l.map λ p=>p.2.bind λ j=>(σ[j]?).join
theorem gD.get {X:Cx}{scope:Scope}:∀ {l:List (Str × Option Nat)},gD X scope l->∀ {i:Nat}{x:Str}{j:Nat},l[i]? = some (x,some j)->
  X.N[j]? = some x/\scope.names.lookup x=some .free/\(X.env.kindOf x=some .cell∨X.env.kindOf x=some .free)
 | [],_,i,x,j,e=>by simp at e
 | (y,none) :: r,h,0,x,j,e=>by simp at e
 | (y,none) :: r,h,i+1,x,j,e=>gD.get (l:=r) h (i:=i) (by simpa using e)
 | (y,some k) :: r,h,0,x,j,e=>by
  simp at e
  obtain⟨rfl,rfl⟩:=e
  exact h.1
 | (y,some k) :: r,h,i+1,x,j,e=>gD.get (l:=r) h.2 (i:=i) (by simpa using e)
theorem j6 (env:Env):∀ (names:List (Str × NameKind)) (DL:List (Str × Addr)),(∀ x∈names,x.2=.free->∃ c,env.cells.lookup x.1=some c)->
  ∃ cl,(forIn names DL (λ(x:Str × NameKind) (cs:List (Str × Addr))=>(if x.2 == .free then do let a <-cellOf env x.1;pure (ForInStep.yield ((x.1,a) :: cs)) else pure (ForInStep.yield cs):Sem (ForInStep (List (Str × Addr))))))=pure cl/\
   (∀ y c,cl.lookup y=some c->env.cells.lookup y=some c∨DL.lookup y=some c)/\(∀ x∈names,x.2=.free->∃ c,cl.lookup x.1=some c )/\(∀ y,(∃ c,DL.lookup y=some c)->∃ c,cl.lookup y=some c)
 | [],DL,h=>⟨DL,rfl,λ _ _ e=>.inr e,λ _ hx=>(nomatch hx),λ _ e=>e⟩
 | (n,k) :: r,DL,h=>by
  by_cases hk:k=.free
  ·subst hk
   obtain⟨c,ec⟩:=h (n,.free) List.mem_cons_self rfl
   obtain⟨cl,e1,e2,e3,e4⟩:=j6 env r ((n,c) :: DL) λ x hx=>h x (List.mem_cons_of_mem _ hx)
   have hc:cellOf env n=pure c:=by
    unfold cellOf
    have GS:env.cells.lookup n=some c:=ec
    rw[GS]
   have own:∃ c',cl.lookup n=some c':=e4 n ⟨c,by simp[List.lookup_cons]⟩
   refine⟨cl,?_,λ y d e=>?_,λ x hx hf=>?_,λ y ⟨d,e⟩=>?_⟩
   ·rw[List.forIn_cons]
    simp only[beq_self_eq_true,if_true,hc,pure_bind]
    exact e1
   ·rcases e2 y d e with z|z
    ·exact .inl z
    ·rw[List.lookup_cons]at z
     split at z
     ·rename_i hy
      have:y=n:=by simpa using hy
      subst this
      cases z
      exact .inl ec
     ·exact .inr z
   ·rcases List.mem_cons.mp hx with rfl|hx
    ·exact own
    ·exact e3 x hx hf
   ·refine e4 y ?_
    rw[List.lookup_cons]
    split
    ·exact⟨_,rfl⟩
    ·exact⟨d,e⟩
  ·obtain⟨cl,e1,e2,e3,e4⟩:=j6 env r DL λ x hx=>h x (List.mem_cons_of_mem _ hx)
   have hb:(k == NameKind.free)=false:=by simpa using hk
   refine⟨cl,?_,e2,λ x hx hf=>?_,e4⟩
   ·rw[List.forIn_cons]
    simp only[hb,Bool.false_eq_true,if_false,pure_bind]
    exact e1
   ·rcases List.mem_cons.mp hx with rfl|hx
    ·exact absurd hf hk
    ·exact e3 x hx hf
theorem jG {scope:Scope}{env:Env}(h:∀ x∈scope.names,x.2=.free->∃ c,env.cells.lookup x.1=some c) :
  ∃ cl,closureFor scope env=pure cl/\(∀ y c,cl.lookup y=some c->env.cells.lookup y=some c)/\∀ x∈scope.names,x.2=.free->∃ c,cl.lookup x.1=some c:=by
 obtain⟨cl,e1,e2,e3,_⟩:=j6 env scope.names [] h
 refine⟨cl,?_,λ y c e=>(e2 y c e).elim id λ z=>by simp at z,e3⟩
 unfold closureFor
 have ur:=e1
 simp only[bind_pure_comp]at ur ⊢
 first
  | (rw[ur];rfl)
  | (simp only[ur];rfl)
  | (simpa using ur)
theorem fL {env:Env}:∀ {names:List (Str × NameKind)}{x:Str},names.lookup x=some .free->
    ((names.map λ(n,k)=>if (k == NameKind.free && env.scope.kind == .function && env.kindOf n == some .cell) then (n,NameKind.cell) else (n,k)).lookup x=some .cell∨
     (names.map λ(n,k)=>if (k == NameKind.free && env.scope.kind == .function && env.kindOf n == some .cell) then (n,NameKind.cell) else (n,k)).lookup x=some .free)
  | [],_,h=>by simp at h
  | (n,k) :: r,x,h=>by
    have ih:=@fL env r x
    show List.lookup x ((if (k == NameKind.free && env.scope.kind == .function && env.kindOf n == some .cell)=true then (n,NameKind.cell) else (n,k)) :: _)=_∨List.lookup x ((if (k == NameKind.free && env.scope.kind == .function && env.kindOf n == some .cell)=true then (n,NameKind.cell) else (n,k)) :: _)=_
    cases hx:x == n with
    | true=>
      simp only[List.lookup_cons,hx]at h
      cases h
      by_cases hc:(NameKind.free == NameKind.free && env.scope.kind == .function && env.kindOf n == some .cell)=true
      · rw[if_pos hc];left;simp[List.lookup_cons,hx]
      · rw[if_neg hc];right;simp[List.lookup_cons,hx]
    | false=>
      simp only[List.lookup_cons,hx]at h
      by_cases hc:(k == NameKind.free && env.scope.kind == .function && env.kindOf n == some .cell)=true
      · rw[if_pos hc];simp only[List.lookup_cons,hx];exact ih h
      · rw[if_neg hc];simp only[List.lookup_cons,hx];exact ih h
theorem kE {env:Env}{x:Str}:∀ {names:List (Str × NameKind)},
    ((names.map λ(n,k)=>if (k == NameKind.free && env.scope.kind == .function && env.kindOf n == some .cell) then (n,NameKind.cell) else (n,k)).lookup x=some .cell∨
     (names.map λ(n,k)=>if (k == NameKind.free && env.scope.kind == .function && env.kindOf n == some .cell) then (n,NameKind.cell) else (n,k)).lookup x=some .free)->(x,NameKind.free)∈names∨names.lookup x=some .cell
  | [],h=>by simp at h
  | (n,k) :: r,h=>by
    have ih:=@kE env x r
    simp only[List.map_cons]at h
    by_cases hb:(k == NameKind.free && env.scope.kind == .function && env.kindOf n == some .cell)=true
    · rw[if_pos hb]at h
      have Qu:k=.free:=by
        have:=(Bool.and_eq_true_iff.mp (Bool.and_eq_true_iff.mp hb).1).1
        simpa using this
      by_cases hx:x=n
      · rw[hx,Qu];exact .inl List.mem_cons_self
      · have Ab:(x == n)=false:=by simpa using hx
        simp only[List.lookup_cons,Ab]at h ⊢
        exact(ih h).imp (List.mem_cons_of_mem _) id
    · rw[if_neg hb]at h
      by_cases hx:x=n
      · have Ab:(x == n)=true:=by simpa using hx
        simp only[List.lookup_cons,Ab]at h ⊢
        rcases h with h|h
        · exact .inr h
        · rw[hx,Option.some.inj h];exact .inl List.mem_cons_self
      · have Ab:(x == n)=false:=by simpa using hx
        simp only[List.lookup_cons,Ab]at h ⊢
        exact(ih h).imp (List.mem_cons_of_mem _) id
theorem gQ:∀ (names:List (Str × NameKind)) (n:Nat)(acc more:List (Str × Addr)),cellsFrom n names (acc++more)=cellsFrom n names acc++more
 | [],_,_,_=>rfl
 | (x,k) :: r,n,acc,more=>by
  unfold cellsFrom
  split
  ·exact gQ r (n+1) ((x,n) :: acc) more
  ·exact gQ r n acc more
theorem gP:∀ (names:List (Str × NameKind)) (n:Nat)(acc:List (Str × Addr)) (x:Str)(c:Addr),(x,c)∈cellsFrom n names acc->(x,NameKind.cell)∈names∨(x,c)∈acc
 | [],_,_,_,_,h=>.inr h
 | (y,k) :: r,n,acc,x,c,h=>by
  unfold cellsFrom at h
  split at h
  ·rename_i hk
   have hk:k=.cell:=by simpa using hk
   rcases gP r _ _ x c h with z|z
   ·exact .inl (List.mem_cons_of_mem _ z)
   ·rcases List.mem_cons.mp z with z|z
    ·cases z;rw[hk];exact .inl List.mem_cons_self
    ·exact .inr z
  ·exact(gP r _ _ x c h).imp (List.mem_cons_of_mem _) id
theorem jy {M:Model}{A:Around}{E:Value->Shared->Prop}{s:Shared}{scope:Scope}{globals:Addr}{closure:List (Str × Addr)}{qual:Str}{outer:Env}{Q:Env->Shared->Prop}
  (hQ:Q (newEnv scope s.heap.objs.size globals (cellsFrom (s.heap.objs.size+1) scope.names closure) qual none .none (some outer) 0) { s with heap:=pushCells (s.heap.push { cls:=.type "dict",data:=.dict #[] }) scope.names }) :
  wpAny M A (newFunctionEnv scope globals closure [] qual none .none (some outer)) Q E s:=by
 simp only[newFunctionEnv,Option.isSome_some,if_true]
 refine wpAny_bind (wpAny_alloc ?_)
 refine wpAny_bind (wpAny_layCells _ (λ name kind cells=>by cases Qv:kind == NameKind.cell<;>simp[Qv]) _ _ _ _ ?_)
 rw[show({ s with heap:=s.heap.push { cls:=.type "dict",data:=.dict #[] } }:Shared).heap.objs.size=s.heap.objs.size+1 from Heap.size_push ..]
 exact wpAny_bind (wpAny_pure (wpAny_pure hQ))
def bD (X:Cx)(l:List (Str × Option Nat)) (scope:Scope)(cl:List (Str × Addr)) (C:Addr)(fp:List Addr)(s3:Shared)(H3:Hp):Cx:=
 { X with N:=l.map (·.1),fY:=s3,vt:=H3,env:=compEnvC scope cl C X.env,outer:=X.stack,ex:=fp,fn:=λ x=>scope.names.lookup x == some .cell,pn:=[],xe:=λ _ _=>False }
def DQ (X:Cx)(ifs:List Expr)(t:TT):Prop:=
 ∀ (pins:List (Addr × Obj)) (s:Shared) (σ:St) (H:Hp) (Q:Bool->Hp->Prop),Inv X pins σ H s->t σ H Q->
  wpAny (model X.prog X.w) X.A (forIn ifs true λ c r=>if r=true then do let ok <-isTrue c X.env (eval c X.env);pure (ForInStep.yield ok) else pure (ForInStep.yield r)) (TP X pins σ Q) X.xe s
def K0:TT:=λ _ H Q=>Q true H
theorem BI {X:Cx}:DQ X [] K0:=λ _ _ _ H _ I h=>wpAny_tests_nil ⟨H,I,h⟩
def AS (e tg:Expr)(ifs:List Expr)(p:Pos)(d:Nat)(body:Value->Env->Sem Unit):Prop:=
 ∀ it acc env,compTurn e d it acc env=(standAt p >>= λ _=>pyNext it >>= λ r=>match r with
  | none=>pure (.done .next)
  | some v=>letOwnedTupleGo tg it v >>= λ _=>assign tg env v >>= λ _=>(forIn ifs true λ c r=>if r=true then do let ok <-isTrue c env (eval c env);pure (ForInStep.yield ok) else pure (ForInStep.yield r)) >>= λ ok=>
   if ok=true then body acc env >>= λ _=>again (.compLoop e d it acc env) else again (.compLoop e d it acc env))
def Hh (e:Expr):Prop:=(∃ a b c d,e=.ListComp a b c d)∨∃ a b c d,e=.SetComp a b c d
theorem rD {prog:Program}{w:World}{A:Around}{R:Result->Shared->Prop}{s:Shared}{e tg:Expr}{ifs:List Expr}{p:Pos}{d:Nat}{body:Value->Env->Sem Unit}(hn:Hh e)(ht:AS e tg ifs p d body){it acc:Value}{env:Env}(I:Nat->Shared->Prop)
  (turn:∀ n s,I n s->wpAny (model prog w) A (pyNext it) (λ r s₁=>match r with
   | none=>R (.ok .next) s₁
   | some v=>wpAny (model prog w) A (letOwnedTupleGo tg it v) (λ _ s₁'=>wpAny (model prog w) A (assign tg env v) (λ _ s₂=>
     wpAny (model prog w) A (forIn ifs true λ c r=>if r=true then do let ok <-isTrue c env (eval c env);pure (ForInStep.yield ok) else pure (ForInStep.yield r)) (λ ok s₃=>
      if ok=true then wpAny (model prog w) A (body acc env) (λ _ s₅=>∃ m,m < n/\I m s₅) (λ _ _=>False) s₃
      else ∃ m,m < n/\I m s₃) (λ _ _=>False) s₂) (λ _ _=>False) s₁') (λ _ _=>False) s₁) (λ _ _=>False) s)
  (n:Nat) (h:I n s) :
  codeAny (model prog w) A (.compLoop e d it acc env) R s:=by
 have no:∀ {α:Type}{t:Sem α}{Q:α->Shared->Prop}{E:Value->Shared->Prop}{s:Shared},wpAny (model prog w) A t Q (λ _ _=>False) s->wpAny (model prog w) A t Q E s:=λ h=>wpAny_mono h (λ _ _ q=>q) λ _ _ f=>f.elim
 refine codeAny_loop rfl I (λ n s hI=>?_) n h
 have hd:(model prog w).den (.compLoop e d it acc env)=(compTurn e d it acc env).onRaise (λ x=>do noteFrame x env;theTreesLotGoes x):=by rcases hn with⟨_,_,_,_,rfl⟩|⟨_,_,_,_,rfl⟩<;>rfl
 have hu:A.under (.compLoop e d it acc env)=A:=by rcases hn with⟨_,_,_,_,rfl⟩|⟨_,_,_,_,rfl⟩<;>rfl
 rw[hd,hu]
 refine wpAny_noted ?_
 rw[ht]
 refine wpAny_bind (wpAny_standAt (wpAny_bind (bO (no (turn n s hI)) (λ r s₁ h₁=>?_))))
 cases r with
 | none=>exact wpAny_pure h₁
 | some v=>
  refine wpAny_bind (bO (no h₁) λ _ Pg JL=>?_)
  refine wpAny_bind (bO (no JL) (λ _ s₂ h₂=>wpAny_bind (bO (no h₂) (λ ok s₃ h₃=>?_))))
  cases ok with
  | false=>exact wpAny_pure ⟨rfl,h₃⟩
  | true=>exact wpAny_bind (bO (no h₃) (λ _ s₅ h₅=>wpAny_pure ⟨rfl,h₅⟩))
theorem pA {prog:Program}{w:World}{A:Around}{R:Result->Shared->Prop}{s:Shared}{e:Expr}{d:Nat}{gc:Comprehension}{it acc:Value}{env:Env}(hn:Hh e)(hg:(clausesOf e)[d]? = some gc) (ha:gc.is_async=0)
  (h0:codeAny (model prog w) A (.compLoop e d it acc env) R s)
  (h:wpAny (model prog w) A (pyIter it) (λ N9 s'=>codeAny (model prog w) A (.compLoop e d N9 acc env) R s') (λ _ _=>False) s) :
  codeAny (model prog w) A (.compStart e d it acc env) R s:=by
 refine codeAny_of_tree ?_
 have hd:(model prog w).den (.compStart e d it acc env)=(compStart e d it acc env).onRaise (λ x=>do noteFrame x env;standAt theWindowsPlace):=by rcases hn with⟨_,_,_,_,rfl⟩|⟨_,_,_,_,rfl⟩<;>rfl
 have hu:A.under (.compStart e d it acc env)=A:=by rcases hn with⟨_,_,_,_,rfl⟩|⟨_,_,_,_,rfl⟩<;>rfl
 rw[hd,hu]
 refine wpAny_notedAt ?_
 unfold compStart
 rw[hg]
 have e1:(some gc).elim false (λ x=>x.is_async != 0)=false:=by show(gc.is_async != 0)=false;rw[ha];rfl
 rw[e1]
 show wpAny _ _ (ask >>= _) _ _ s
 refine wpAny_bind (wpAny_askSetting (wpAny_ite ?_))
 split
 ·first
   | exact wpAny_bind (wpAny_pure (wpAny_pure (And.intro rfl h0)))
   | exact wpAny_pure (And.intro rfl h0)
 ·exact wpAny_bind (wpAny_rule (wpAny_bind (wpAny_standAt (wpAny_bind (wpAny_mono h (λ N9 s' h'=>wpAny_pure (And.intro rfl h')) λ _ _ x=>x.elim)))))
def DS (l:List (Str × Option Nat)) (g:TG)(tt:TT)(te:TE)(J:It)(σ:St)(H1:Hp)(Q:Addr->Hp->Prop):Prop:=
 ∀ D,H1 D=none->∃ W:Nat->Nat->List V->St->Hp->Prop,(∃ m,W 0 m [] (uI l σ) (upd H1 D (.lst [])))/\∀ i m ys σ1 H2,W i m ys σ1 H2->
  (J.stop i H2/\Q D H2)∨(J.go i H2/\∀ x H3,J.Dd i H2 x H3->g x σ1 H3 λ σ2 H4=>tt σ2 H4 λ b H5=>
   if b=true then te σ2 H5 λ v H6=>H6 D=some (.lst ys)/\ys.length < sizeLine/\∃ m',m' < m/\W (i+1) m' (ys++[v]) σ2 (upd H6 D (.lst (ys++[v]))) else ∃ m',m' < m/\W (i+1) m' ys σ2 H5)
def Ei (l:List (Str × Option Nat)) (wi:TI)(g:TG)(tt:TT)(te:TE)(σ:St)(H:Hp)(Q:Addr->Hp->Prop):Prop:=
 wi σ H λ J H1=>DS l g tt te J σ H1 Q
theorem AI {α:Type}{X:Cx}{e tg:Expr}{ifs:List Expr}{scope:Scope}{cl:List (Str × Addr)}{l:List (Str × Option Nat)}{g:TG}{tt:TT}{body:Value->Env->Sem Unit}{p:Pos}{gc:Comprehension}{D:Addr}
  (hn:Hh e) (Jo:AS e tg ifs p 0 body) (QA:(clausesOf e)[0]? = some gc) (has:gc.is_async=0)
  (rf:∀ y c,cl.lookup y=some c->X.env.cells.lookup y=some c) (CG:∀ x∈scope.names,x.2=.free->∃ c,cl.lookup x.1=some c)
  (tH:scope.kind=.function) (qa:∀ y∈scope.names,y.2=.cell->scope.names.lookup y.1=some .cell) (iH:X.calm=true) (Gb:gD X scope l)
  (hg:∀ cl C fp s3 H3,PG (bD X l scope cl C fp s3 H3) tg g) (ht:∀ cl C fp s3 H3,DQ (bD X l scope cl C fp s3 H3) ifs tt)
  {pins:List (Addr × Obj)}{σ:St}{H3:Hp}{s3:Shared}{it:Addr}{fp:List Addr}{tn:Nat->Heap->Prop}{J:It}{Q:Hp->Prop}{RR:Addr->Result->Shared->Prop}{E:Value->Shared->Prop}
  {W:Nat->Nat->α->St->Hp->Prop}{B:Nat->Nat->α->St->Hp->Prop}{m0:Nat}{y0:α}
  (hb:∀ cl C fp s3 H3 pins s i m ys σ H,Inv (bD X l scope cl C fp s3 H3) pins σ H s->B i m ys σ H->
   wpAny (model X.prog X.w) X.A (body (.ref D) (compEnvC scope cl C X.env)) (λ _ s'=>∃ m' Ke σ' H',m' < m/\Inv (bD X l scope cl C fp s3 H3) pins σ' H' s'/\W (i+1) m' Ke σ' H') (λ _ _=>False) s)
  (I3:Inv X pins σ H3 s3) (T:Turn X.prog X.w X.K tg J fp it tn) (Dj:tn 0 s3.heap) (om:∀ b∈fp,mN X pins H3 b)
  (w0:W 0 m0 y0 (uI l σ) H3)
  (turn:∀ i m ys σ1 H2,W i m ys σ1 H2->(J.stop i H2/\Q H2)∨(J.go i H2/\∀ x H3,J.Dd i H2 x H3->g x σ1 H3 λ σ2 H4=>tt σ2 H4 λ b H5=>if b=true then B i m ys σ2 H5 else ∃ m',m' < m/\W (i+1) m' ys σ2 H5))
  (MN:∀ C (s':Shared) (H':Hp),Q H'->(∃ m,s'.heap.Ns C m)->Inv X pins σ H' s'->mN X pins H' C->RR C (.ok .next) s') :
  wpAny (model X.prog X.w) X.A (newFunctionEnv scope X.env.globals cl [] X.env.qual none .none (some X.env)) (λ AJ s₄=>
   codeAny (model X.prog X.w) X.A (.compStart e 0 (.ref it) (.ref D) { AJ with scope:=relabel scope X.env }) (RR AJ.locals) s₄) E s3:=by
 refine jy ?_
 have eC:(newEnv scope s3.heap.objs.size X.env.globals (cellsFrom (s3.heap.objs.size+1) scope.names cl) X.env.qual none Value.none (some X.env) 0).locals=s3.heap.objs.size:=rfl
 have Nq:=cellsFrom_ok scope.names (s3.heap.push { cls:=.type "dict",data:=.dict #[] }) (s3.heap.objs.size+1) [] ⟨λ _ _ hm=>(nomatch hm),List.Pairwise.nil⟩ (by rw[Heap.size_push];exact Nat.le_refl _)
 rw[Heap.size_push]at Nq
 have Q5:cellsFrom (s3.heap.objs.size+1) scope.names cl=cellsFrom (s3.heap.objs.size+1) scope.names []++cl:=gQ scope.names _ [] cl
 have Ky:(pushCells (s3.heap.push { cls:=.type "dict",data:=.dict #[] }) scope.names).Ns s3.heap.objs.size (λ _=>none):=(Heap.Ns.new s3.heap (.type "dict")).keeps (pushCells_keeps _ _)
 have old:∀ b o,s3.heap.get? b=some o->(pushCells (s3.heap.push { cls:=.type "dict",data:=.dict #[] }) scope.names).get? b=some o:=λ b o e=>pushCells_keeps _ _ b o (Heap.get?_push_of_some _ e)
 rw[Q5]at *
 have ownN:∀ x c,(cellsFrom (s3.heap.objs.size+1) scope.names []).lookup x=some c->scope.names.lookup x=some .cell:=λ x c e=>by
  rcases gP _ _ _ _ _ (mem_of_lookup e) with z|z
  ·exact qa _ z rfl
  ·exact nomatch z
 have ownS:∀ x,scope.names.lookup x=some .cell->∃ c,(cellsFrom (s3.heap.objs.size+1) scope.names []).lookup x=some c:=λ x e=>Option.isSome_iff_exists.mp (PySem.W.cellsFrom_some scope.names _ [] (.inl e))
 generalize Qi:cellsFrom (s3.heap.objs.size+1) scope.names []=own at *
 generalize RP:pushCells (s3.heap.push { cls:=.type "dict",data:=.dict #[] }) scope.names=h4 at *
 generalize hC:s3.heap.objs.size=C at *
 have eE:({ newEnv scope C X.env.globals (own++cl) X.env.qual none Value.none (some X.env) 0 with scope:=relabel scope X.env }:Env)=compEnvC scope (own++cl) C X.env:=rfl
 have cs_of:∀ x c,(own++cl).lookup x=some c->(own.lookup x=some c/\h4.IsCell c none/\C+1<=c)∨(own.lookup x=none/\cl.lookup x=some c):=λ x c e=>by
  rw[List.lookup_append]at e
  cases q:own.lookup x with
  | none=>rw[q]at e;exact .inr ⟨rfl,e⟩
  | some d=>rw[q]at e;cases e;exact .inl ⟨rfl,Nq.empty x c (mem_of_lookup q)⟩
 have of_cl:∀ x c,scope.names.lookup x≠some .cell->cl.lookup x=some c->(own++cl).lookup x=some c:=λ x c n e=>by
  rw[List.lookup_append]
  cases q:own.lookup x with
  | none=>exact e
  | some d=>exact(n (ownN x d q)).elim
 have cltC:∀ y c,cl.lookup y=some c->c < C:=λ y c e=>by
  obtain⟨v,q⟩:=I3.cell y c (rf y c e)
  have:=q.lt
  rw[hC]at this
  exact this
 have fpC:∀ b∈fp,b≠C:=λ b hb z=>by
  obtain⟨o,ho,_⟩:=T.obj _ _ Dj b hb
  exact absurd (Heap.lt_size ho) (by rw[z,hC];exact Nat.lt_irrefl _)
 have cellC:∀ y c,(own++cl).lookup y=some c->c≠C:=λ y c e z=>by
  rcases cs_of y c e with⟨_,_,q⟩|⟨_,q⟩
  ·rw[z]at q;exact absurd q (Nat.not_succ_le_self _)
  ·exact absurd (cltC y c q) (by rw[z];exact Nat.lt_irrefl _)
 have fpB:∀ b∈fp,b < C:=λ b hb=>by
  obtain⟨o,ho,_⟩:=T.obj _ _ Dj b hb
  rw[<-hC];exact Heap.lt_size ho
 have fpCs:∀ b∈fp,∀ x c,(own++cl).lookup x=some c->c≠b:=λ b hb x c e z=>by
  rcases cs_of x c e with⟨_,_,q⟩|⟨_,q⟩
  ·rw[z]at q;exact absurd (Nat.lt_of_lt_of_le (fpB b hb) (Nat.le_of_succ_le q)) (Nat.lt_irrefl _)
  ·exact(om b hb).2.2.2.2.1 x c (rf x c q) z
 have H3C:H3 C=none:=by
  have:=I3.fresh
  rw[hC]at this
  exact this
 have OK:(bD X l scope (own++cl) C fp s3 H3).Ok:={
  mod:=I3.ok.mod
  kind:=tH
  glob:=I3.ok.glob
  blt:=I3.ok.blt
  above:=Nat.le_of_eq hC
  inj:=λ x y c e1 e2=>by
   rcases cs_of x c e1 with⟨p1,_,p3⟩|⟨_,p1⟩<;>rcases cs_of y c e2 with⟨q1,_,q3⟩|⟨_,q1⟩
   ·exact name_of_addr Nq.apart (mem_of_lookup p1) (mem_of_lookup q1)
   ·exact absurd (cltC y c q1) (Nat.not_lt.mpr (Nat.le_of_succ_le p3))
   ·exact absurd (cltC x c p1) (Nat.not_lt.mpr (Nat.le_of_succ_le q3))
   ·exact I3.ok.inj x y c (rf x c p1) (rf y c q1)
  has:=λ x hx=>by
   show ∃ c,(own++cl).lookup x=some c
   rw[List.lookup_append]
   cases q:own.lookup x with
   | some d=>exact⟨d,rfl⟩
   | none=>
    rcases kE hx with z|z
    ·obtain⟨c,e⟩:=CG (x,.free) z rfl
     exact⟨c,e⟩
    ·obtain⟨c,e⟩:=ownS x z
     rw[q]at e;cases e
  Hx:=λ x c hf e=>by
   have hf:(scope.names.lookup x == some NameKind.cell)=true:=hf
   have hf:scope.names.lookup x=some .cell:=by simpa using hf
   obtain⟨d,ed⟩:=ownS x hf
   rcases cs_of x c e with⟨_,_,q⟩|⟨q,_⟩
   ·show s3.heap.objs.size<=c
    rw[hC];omega
   ·rw[q]at ed;cases ed
  hd:=I3.ok.hd
  frames:=I3.ok.frames
  HQ:=.inl rfl
  M0:=λ b hb=>⟨fpC b hb,fpCs b hb⟩
  bs:=λ b o e=>I3.bs b o e
  C2:=Nat.le_trans I3.ok.C2 I3.sz
  xH:=λ b o e hb=>by
   rcases(om b hb).2.2.2.1 with z|z
   ·exact I3.ok.xH b o e z
   ·exact absurd (Nat.lt_of_lt_of_le (Heap.lt_size e) (Nat.le_trans I3.ok.C2 z)) (Nat.lt_irrefl _)
  yb:=λ b hb hz=>by
   rcases List.mem_cons.mp (I3.uG b hz) with z|z
   ·exact(om b hb).2.1 z
   ·exact(om b hb).2.2.1 z
  mH:=I3.stack
  GF:=I3.vD }
 have fpX:∀ {H':Hp},(∀ b∈fp,H' b=none)->∀ b∈fp,mN (bD X l scope (own++cl) C fp s3 H3) [] H' b:=λ hn b hb=>
  ⟨hn b hb,fpC b hb,OK.yb b hb,.inl hb,fpCs b hb,λ p hp=>nomatch hp⟩
 have I4:Inv (bD X l scope (own++cl) C fp s3 H3) [] (uI l σ) H3 { s3 with heap:=h4 }:={
  ok:=OK
  os:=rfl
  bare:=I3.bare
  base:=Un.kept old
  loc:=by
   refine⟨_,Ky,λ i x v e1 e2 e3=>?_⟩
   have ur:(l.map (·.1))[i]? = some x:=e1
   have GU:(l.map λ p=>p.2.bind λ j=>(σ[j]?).join)[i]? = some (some v):=e2
   rw[List.getElem?_map]at ur GU
   cases el:l[i]? with
   | none=>rw[el]at ur;cases ur
   | some p=>
    rw[el]at ur GU
    obtain⟨y,o⟩:=p
    have M5:y=x:=Option.some.inj ur
    subst M5
    cases o with
    | none=>cases GU
    | some j=>
     have CT:(σ[j]?).join=some v:=Option.some.inj GU
     have ej:σ[j]? = some (some v):=by
      cases q:σ[j]? with
      | none=>rw[q]at CT;cases CT
      | some z=>rw[q]at CT;exact congrArg some CT
     obtain⟨k1,k2,k3⟩:=Gb.get el
     obtain⟨m,hn,hl⟩:=I3.loc
     obtain⟨u,r,lk⟩:=hl j y v k1 ej (k3.elim (λ z=>.inr (.inl z)) λ z=>.inr (.inr z))
     refine⟨u,r,.inr ⟨fL k2,?_⟩⟩
     rcases lk with⟨z,_⟩|⟨_,c,ec,Gx⟩
     ·rcases k3 with k3|k3<;>(rw[z]at k3;cases k3)
     ·have hm:(y,NameKind.free)∈scope.names:=by
       have:∀ {names:List (Str × NameKind)},names.lookup y=some NameKind.free->(y,NameKind.free)∈names:=by
        intro names
        induction names with
        | nil=>intro h;simp at h
        | cons q r ih=>
         intro h
         obtain⟨n,k⟩:=q
         rw[List.lookup_cons]at h
         split at h
         ·rename_i hy
          have:y=n:=by simpa using hy
          subst this
          cases h
          exact List.mem_cons_self
         ·exact List.mem_cons_of_mem _ (ih h)
       exact this k2
      obtain⟨c',GS⟩:=CG _ hm rfl
      have:c'=c:=by
       have:=rf _ _ GS
       rw[ec]at this
       exact(Option.some.inj this).symm
      subst this
      obtain⟨o,ho,hd⟩:=Gx
      exact⟨c',of_cl _ _ (by rw[k2];intro z;cases z) GS,o,old _ _ ho,hd⟩
  cell:=λ x c e=>by
   rcases cs_of x c e with⟨_,q,_⟩|⟨_,q⟩
   ·exact⟨none,q⟩
   ·obtain⟨v,o,ho,hd⟩:=I3.cell x c (rf x c q)
    exact⟨v,o,old _ _ ho,hd⟩
  free:=H3C
  iI:=λ x c e=>by
   rcases cs_of x c e with⟨_,_,q⟩|⟨_,q⟩
   ·exact I3.bN.fresh (by rw[hC];omega)
   ·exact I3.iI x c (rf x c q)
  pin:=λ p hp=>nomatch hp
  bN:=I3.bN.kept old
  len:=by show(List.map _ l).length=(List.map _ l).length;rw[List.length_map,List.length_map] }
 have NM:tn 0 h4:=T.keep _ _ _ Dj λ b _ o e=>old b o e
 have loop:∀ s4:Shared,s4={ s3 with heap:=h4 }->
   codeAny (model X.prog X.w) X.A (.compLoop e 0 (.ref it) (.ref D) (compEnvC scope (own++cl) C X.env)) (RR C) s4:=by
  rintro s4 rfl
  refine rD hn Jo (λ n s'=>∃ i ys σ' H',Inv (bD X l scope (own++cl) C fp s3 H3) [] σ' H' s'/\tn i s'.heap/\(∀ b∈fp,H' b=none)/\W i n ys σ' H') ?_ m0
   ⟨0,y0,uI l σ,H3,I4,NM,λ b hb=>(om b hb).1,w0⟩
  rintro n s5 ⟨i,ys,σ5,H5,I5,Hi,KH,w5⟩
  rcases turn i n ys σ5 H5 w5 with⟨stop,q⟩|⟨go,step⟩
  ·refine bO (T.done (bD X l scope (own++cl) C fp s3 H3) rfl rfl rfl iH i [] s5 σ5 H5 _ I5 (fpX KH) Hi stop) λ r s6 ⟨hr,I6⟩=>?_
   subst hr
   obtain⟨m6,Qo,_⟩:=I6.loc
   have u:Un (yq X.stack) fp H3 H5 s3.heap s6.heap:=I6.base
   refine MN C s6 H5 q ⟨m6,Qo⟩ (I3.J4 (s':=s6) (ch:=fp) I6.os u I6.bN I6.bare λ b hb=>⟨(om b hb).2.2.2.1,(om b hb).2.1,(om b hb).2.2.2.2.1,(om b hb).2.2.2.2.2⟩) ?_
   have hle:s3.heap.objs.size<=C:=Nat.le_of_eq hC
   have f0:=I3.vf (H':=H5) hle I6.free
   exact f0
  ·refine bO (T.item (bD X l scope (own++cl) C fp s3 H3) rfl rfl rfl iH i [] s5 σ5 H5 _ I5 (fpX KH) Hi go) λ r s6 ⟨u,hr,h6⟩=>?_
   subst hr
   refine bO h6 λ _ s7 ⟨x,H7,I7,r7,y7,Ln,QW⟩=>?_
   have I7':=I7.pinned (fpX QW) (T.obj _ _ Ln)
   have back:∀ {σ8:St}{H8:Hp}{s8:Shared},Inv (bD X l scope (own++cl) C fp s3 H3) ([]++nJ fp s7.heap) σ8 H8 s8->Inv (bD X l scope (own++cl) C fp s3 H3) [] σ8 H8 s8/\tn (i+1) s8.heap/\∀ b∈fp,H8 b=none:=λ {σ8 H8 s8} I8=>by
    refine⟨I8.ky,T.keep _ _ _ Ln λ b hb o e=>(I8.pin (b,o) (List.mem_append_right _ (List.mem_append_right _ (ik hb e)))).1,λ b hb=>?_⟩
    obtain⟨o,e,d⟩:=T.obj _ _ Ln b hb
    exact(I8.pin (b,o) (List.mem_append_right _ (List.mem_append_right _ (ik hb e)))).2.1
   refine bO (hg (own++cl) C fp s3 H3 _ s7 σ5 H7 x u _ I7' r7 (step x H7 y7)) λ _ s8 ⟨σ8,H8,I8,q8⟩=>?_
   refine bO (ht (own++cl) C fp s3 H3 _ s8 σ8 H8 _ I8 q8) λ ok s9 ⟨H9,I9,q9⟩=>?_
   cases ok with
   | false=>
    rw[if_neg (by decide)]at q9 ⊢
    obtain⟨m',hm,w9⟩:=q9
    obtain⟨z1,z2,z3⟩:=back I9
    exact⟨m',hm,i+1,ys,σ8,H9,z1,z2,z3,w9⟩
   | true=>
    rw[if_pos rfl]at q9 ⊢
    refine bO (hb (own++cl) C fp s3 H3 _ s9 i n ys σ8 H9 I9 q9) λ _ NN ⟨m',Ke,σ',H',hm,I11,KU⟩=>?_
    obtain⟨z1,z2,z3⟩:=back I11
    exact⟨m',hm,i+1,Ke,σ',_,z1,z2,z3,KU⟩
 exact pA hn QA has (loop _ rfl) (T.self _ 0 _ _ _ NM (loop _ rfl))
theorem C5 {Y:Cx}{elt:Expr}{te:TE}(he:PE Y elt te)(N_:Y.xe=λ _ _=>False){D:Addr}{ys:List V}{pins:List (Addr × Obj)}{s:Shared}{σ:St}{H:Hp}{N:V->Hp->Prop}(I:Inv Y pins σ H s)
  (h:te σ H λ v H6=>H6 D=some (.lst ys)/\ys.length < sizeLine/\N v (upd H6 D (.lst (ys++[v])))) :
  wpAny (model Y.prog Y.w) Y.A (eval elt Y.env >>= λ x=>call (.builtin "list.append") [.ref D,x] >>= λ _=>pure PUnit.unit) (λ _ s'=>∃ v H',Inv Y pins σ H' s'/\N v H') (λ _ _=>False) s:=by
 have h1:=he pins s σ H _ I h
 rw[N_]at h1
 refine wpAny_bind (bO h1 λ xv o7 ⟨v,H10,I10,Pl,Pq⟩=>?_)
 obtain⟨MA,hz,KU⟩:=Pq
 have h2:=pO _ o7 σ H10 (.ref D) [v] (.ref D) [xv] (λ z H'=>z=.aY/\H'=upd H10 D (.lst (ys++[v]))) I10 rfl (.cons Pl .nil) ⟨D,ys,v,rfl,rfl,MA,hz,rfl,rfl⟩
 rw[N_]at h2
 refine wpAny_bind (bO h2 λ _ NN QQ=>?_)
 obtain⟨_,H11,I11,_,_,uq⟩:=QQ
 subst uq
 exact wpAny_pure ⟨v,_,I11,KU⟩
theorem qm {X:Cx}{elt tg iter:Expr}{ifs:List Expr}{scope:Scope}{cl:List (Str × Addr)}{pos:Pos}{l:List (Str × Option Nat)}{g:TG}{tt:TT}{te:TE}
  (Oq:closureFor scope X.env=pure cl) (rf:∀ y c,cl.lookup y=some c->X.env.cells.lookup y=some c) (CG:∀ x∈scope.names,x.2=.free->∃ c,cl.lookup x.1=some c)
  (tH:scope.kind=.function) (qa:∀ y∈scope.names,y.2=.cell->scope.names.lookup y.1=some .cell) (iH:X.calm=true) (Gb:gD X scope l)
  (hg:∀ cl C fp s3 H3,PG (bD X l scope cl C fp s3 H3) tg g) (ht:∀ cl C fp s3 H3,DQ (bD X l scope cl C fp s3 H3) ifs tt) (he:∀ cl C fp s3 H3,PE (bD X l scope cl C fp s3 H3) elt te)
  {pins:List (Addr × Obj)}{σ:St}{H:Hp}{s:Shared}{it:Addr}{fp:List Addr}{tn:Nat->Heap->Prop}{J:It}{Q:Addr->Hp->Prop}{RR:Value->Addr->Result->Shared->Prop}{E:Value->Shared->Prop}
  (I:Inv X pins σ H s) (T:Turn X.prog X.w X.K tg J fp it tn) (st:tn 0 s.heap) (Om:∀ b∈fp,mN X pins H b)
  (hw:DS l g tt te J σ H Q)
  (MN:∀ D C (s':Shared) (H':Hp),Q D H'->(∃ m,s'.heap.Ns C m)->Inv X pins σ H' s'->mN X pins H' C->RR (.ref D) C (.ok .next) s') :
  wpAny (model X.prog X.w) X.A (newList []) (λ acc s₃=>wpAny (model X.prog X.w) X.A (newFunctionEnv scope X.env.globals cl [] X.env.qual none .none (some X.env)) (λ AJ s₄=>
   codeAny (model X.prog X.w) X.A (.compStart (.ListComp elt [⟨tg,iter,ifs,0⟩] scope pos) 0 (.ref it) acc { AJ with scope:=relabel scope X.env }) (RR acc AJ.locals) s₄) E s₃) E s:=by
 refine wpAny_newList ?_ (by show 0<=sizeLine;exact Nat.zero_le _)
 have I3:Inv X pins σ (upd H s.heap.objs.size (.lst [])) { s with heap:=s.heap.push { cls:=.type "list",data:=.seq ([]:List Value).toArray } }:=
  I.FQ (its:=[]) (ys:=[]) (t':=s.toks) .nil (Nat.zero_le _)
 have hD:H s.heap.objs.size=none:=I.fresh
 obtain⟨W,⟨m0,w0⟩,turn⟩:=hw _ hD
 have fpD:∀ b∈fp,b≠s.heap.objs.size:=λ b hb z=>by
  obtain⟨o,ho,_⟩:=T.obj _ _ st b hb
  exact absurd (Heap.lt_size ho) (by rw[z];exact Nat.lt_irrefl _)
 have om:∀ b∈fp,mN X pins (upd H s.heap.objs.size (.lst [])) b:=λ b hb=>⟨by rw[aD (fpD b hb)];exact(Om b hb).1,(Om b hb).2⟩
 have Dj:tn 0 (s.heap.push { cls:=.type "list",data:=.seq ([]:List Value).toArray }):=T.keep _ _ _ st λ b _ o e=>Heap.get?_push_of_some _ e
 refine AI (α:=List V) (B:=λ i m ys σ H5=>te σ H5 λ v H6=>H6 s.heap.objs.size=some (.lst ys)/\ys.length < sizeLine/\∃ m',m' < m/\W (i+1) m' (ys++[v]) σ (upd H6 s.heap.objs.size (.lst (ys++[v])))) (Q:=Q s.heap.objs.size) (p:=iter.pos) (body:=λ acc env=>eval elt env >>= λ x=>call (.builtin "list.append") [acc,x] >>= λ _=>pure PUnit.unit)
  (.inl ⟨_,_,_,_,rfl⟩) (λ _ _ _=>rfl) rfl rfl rf CG tH qa iH Gb hg ht (λ cl C fp s3 H3 pins s' i m ys σ H I h=>?_) I3 T Dj om w0 turn λ C s' H' q=>MN _ C s' H' q
 refine bO (C5 (N:=λ v H'=>∃ m',m' < m/\W (i+1) m' (ys++[v]) σ H') (he cl C fp s3 H3) rfl I h) λ _ NN ⟨v,H',I',m',hm,w'⟩=>⟨m',_,_,H',hm,I',w'⟩
def yF (l:List (Str × Option Nat)) (wi:TI)(g:TG)(tt:TT)(te:TE):TE:=λ σ H Q=>Ei l wi g tt te σ H λ D H'=>Q (.ref D) H'
section
variable {X:Cx}{elt tg iter:Expr}{ifs:List Expr}{scope:Scope}{pos:Pos}{wi:TI}{g:TG}{tt:TT}{te:TE}
structure dS (X:Cx)(scope:Scope)(l:List (Str × Option Nat)):Prop where
 kind:scope.kind=.function
 cell:∀ y∈scope.names,y.2=.cell->scope.names.lookup y.1=some .cell
 names:∀ y∈scope.names,y.2=.local->scope.names.lookup y.1=some .local
 free:∀ y∈scope.names,y.2=.free->X.env.kindOf y.1=some .cell∨X.env.kindOf y.1=some .free
 src:gD X scope l
theorem BQ (l:List (Str × Option Nat)) (oh:dS X scope l)(iH:X.calm=true)(hi:PI X tg iter wi)
  (hg:∀ cl C fp s3 H3,PG (bD X l scope cl C fp s3 H3) tg g) (ht:∀ cl C fp s3 H3,DQ (bD X l scope cl C fp s3 H3) ifs tt) (he:∀ cl C fp s3 H3,PE (bD X l scope cl C fp s3 H3) elt te)
  (hs:∀ x,foldedSetIterable iter X.env x=pure x:=by intro _;rfl) :
  PE X (.ListComp elt [⟨tg,iter,ifs,0⟩] scope pos) (yF l wi g tt te):=by
 intro pins s σ H Q I h
 obtain⟨cl,e1,e2,e3⟩:=jG (scope:=scope) (env:=X.env) λ x hx hf=>I.ok.has x.1 (oh.free x hx hf)
 rw[eval_ListComp]
 refine wpAny_comprehension_free (use:=none) rfl hs e1 oh.kind oh.names (bO (hi pins s σ H _ I h) λ v s1 h1=>bO h1 λ Kv s2 h2=>?_)
 obtain⟨it,fp,tn,J,H2,e,I2,T,HS,f2,hw⟩:=h2
 subst e
 refine qm (RR:=λ acc C=>compPost (model X.prog X.w) X.A X.xe none (EP X pins σ Q) acc C) e1 e2 e3 oh.kind oh.cell iH oh.src hg ht he I2 T HS f2 hw ?_
 intro D C s' H' q ⟨m,hn⟩ I' f'
 refine⟨m,hn,λ h' Mo=>?_⟩
 exact⟨.ref D,H',I'.turned (t':=s'.toks) (λ b o hb e=>(Mo.2 b hb).trans e) f'.1 f'.2.1 f'.2.2.2.1 f'.2.2.2.2.1 f'.2.2.2.2.2,rfl,q⟩
theorem uM {i:Nat}{y:Str}{py yJ:Pos}(l:List (Str × Option Nat)) (oh:dS X scope l)(iH:X.calm=true)(hN:X.N.Nodup)(hy:X.N[i]? = some y)(hx:X.env.scope.names.lookup y=some .local)(hi:PI X tg iter wi)
  (hg:∀ cl C fp s3 H3,PG (bD X l scope cl C fp s3 H3) tg g) (ht:∀ cl C fp s3 H3,DQ (bD X l scope cl C fp s3 H3) ifs tt) (he:∀ cl C fp s3 H3,PE (bD X l scope cl C fp s3 H3) elt te)
  (Mk:swapsWith (.ListComp elt [⟨tg,iter,ifs,0⟩] scope pos) (some (.Name y py)) yJ.line X.env=pure true)
  (hs:∀ x,foldedSetIterable iter X.env x=pure x:=by intro _;rfl) :
  PS X (.Assign [.Name y py] (.ListComp elt [⟨tg,iter,ifs,0⟩] scope pos) yJ) (Bi (yF l wi g tt te) (wH i)):=by
 intro pins s σ H D0 I h
 obtain⟨cl,e1,e2,e3⟩:=jG (scope:=scope) (env:=X.env) λ x hx hf=>I.ok.has x.1 (oh.free x hx hf)
 rw[exec_Assign_Name_used _ _ _ _ Mk]
 refine wpAny_bind (wpAny_standAt (wpAny_bind ?_))
 show wpAny _ X.A (do let _ <-comprehension (.ListComp elt [⟨tg,iter,ifs,0⟩] scope pos) scope X.env _ (newList []) false (eval iter X.env) (some (assign (.Name y py) X.env))) _ _ s
 refine wpAny_bind (bO (wpAny_comprehension_free (use:=some (assign (.Name y py) X.env)) (Q:=λ _ s'=>SP X pins D0 .next s') rfl hs e1 oh.kind oh.names
  (bO (hi pins s σ H _ I h) λ v s1 h1=>bO h1 λ Kv s2 h2=>?_)) λ _ s' hq=>wpAny_pure (wpAny_pure hq))
 obtain⟨it,fp,tn,J,H2,e,I2,T,HS,f2,hw⟩:=h2
 subst e
 refine qm (RR:=λ acc C=>compPost (model X.prog X.w) X.A X.xe (some (assign (.Name y py) X.env)) (λ _ s'=>SP X pins D0 .next s') acc C) e1 e2 e3 oh.kind oh.cell iH oh.src hg ht he I2 T HS f2 hw ?_
 intro D C s' H' q ⟨m,hn⟩ I' f'
 show wpAny _ X.A (assign (.Name y py) X.env (.ref D)) _ _ _
 refine wpAny_assign_Name (pH (v:=.ref D) I' hN hy (.inl hx) rfl (λ yQ I'' hk=>?_) (.inr hx))
 obtain⟨a,Ge,ha⟩:=hk
 have QM:C≠a:=by
  rintro rfl
  rcases ha with z|z
  ·exact f'.2.1 z
  ·exact f'.2.2.2.2.1 y _ z rfl
 refine⟨m,hn.sameBut Ge QM,λ h' Mo=>?_⟩
 exact⟨_,H',I''.turned (t':=yQ.toks) (λ b o hb e=>(Mo.2 b hb).trans e) f'.1 f'.2.1 f'.2.2.2.1 f'.2.2.2.2.1 f'.2.2.2.2.2,q⟩
end
end L2
namespace L2
open PySem PySem.Spec PyProof.Rows
def bw (n:Nat)(i:Int):Prop:=i.natAbs < 2 ^ n
theorem bw.mono {n m:Nat}{i:Int}(h:bw n i)(k:n<=m):bw m i:=Nat.lt_of_lt_of_le h (Nat.pow_le_pow_right (by decide) k)
theorem bw.mul {n m:Nat}{i j:Int}(h:bw n i)(k:bw m j):bw (n+m) (i * j):=by
 unfold bw at *
 rw[Int.natAbs_mul,Nat.pow_add]
 exact Nat.mul_lt_mul'' h k
theorem bw.neg {n:Nat}{i:Int}(h:bw n i):bw n (-i):=by unfold bw at *;rw[Int.natAbs_neg];exact h
theorem bw.add {n:Nat}{i j:Int}(h:bw n i)(k:bw n j):bw (n+1) (i+j):=by
 unfold bw at *
 have:=Int.natAbs_add_le i j
 rw[Nat.pow_succ]
 omega
theorem bw.le {n:Nat}{i j:Int}(h:bw n i)(k:j.natAbs<=i.natAbs):bw n j:=Nat.lt_of_le_of_lt k h
theorem bw.bits {n:Nat}{i:Int}(h:bw n i):Builtin.Int.intBits i<=n:=by
 unfold Builtin.Int.intBits
 split
 ·exact Nat.zero_le _
 ·rename_i hz
  have h0:i.natAbs≠0:=by
   intro z
   apply hz
   have:i=0:=by omega
   simp[this]
  have:=(Nat.log2_lt h0).mpr h
  omega
theorem bw.log {n:Nat}{i:Int}(h:bw n i)(hn:0 < n):i.natAbs.log2 < n:=by
 by_cases h0:i.natAbs=0
 ·rw[h0]
  show Nat.log2 0 < n
  have:Nat.log2 0=0:=by decide
  rw[this];exact hn
 ·exact(Nat.log2_lt h0).mpr h
theorem bw.IM {i j:Int}(h:bw 60000000 i)(k:bw 60000000 j):IntMulOk i j:=by
 have h1:=h.bits
 have h2:=k.bits
 unfold IntMulOk
 have e:Builtin.Int.intTooBig (((Builtin.Int.intBits i+Builtin.Int.intBits j:Nat)):Int)=false:=by
  unfold Builtin.Int.intTooBig
  refine decide_eq_false ?_
  show ¬ ((((Builtin.Int.intBits i+Builtin.Int.intBits j:Nat)):Int) > (((2 ^ 27:Nat)):Int))
  have:(2 ^ 27:Nat)=134217728:=by decide
  omega
 simp[e]
 try (intro _ _;exact_mod_cast e)
theorem qg {i:Int}{n:Nat}(h1:-(2 ^ n) < i) (h2:i < 2 ^ n):bw n i:=by
 unfold bw
 have e:((2 ^ n:Nat):Int)=(2:Int) ^ n:=by
  rw[Int.natCast_pow];rfl
 have:(i.natAbs:Int) < ((2 ^ n:Nat):Int):=by rw[e];omega
 exact_mod_cast this
section
variable {X:Cx}
theorem BV:e_ X (binaryOp .Mult) (rI (λ i j=>bw 60000000 i/\bw 60000000 j) λ i j=>.int (i * j)):=Kq λ _ _ _ _ _ _ _ hc q=>mul_int q (hc.1.IM hc.2)
theorem zg:e_ X (binaryOp .FloorDiv) (rI (λ _ j=>j≠0/\bw 9000 j) λ i j=>.int (i.fdiv j)):=Kq λ _ _ _ _ _ _ _ hc q=>floordiv_int hc.1 q (.inl (PyProof.noPylong_of_log2 (hc.2.log (by decide))))
theorem rJ:cg X (.builtin "divmod") (λ xs H Q=>∃ i j,xs=[.int i,.int j]/\(0 < j/\bw 9000 j)/\∀ p,H p=none->Q (.ref p) (upd H p (.tup [.int (i / j),.int (i % j)]))):=by
 intro pins s σ H xs us Q I r h
 obtain⟨i,j,rfl,⟨h1,h2⟩,q⟩:=h
 obtain⟨u,w',rfl,⟨t,rfl⟩,⟨t',rfl⟩⟩:=vals2 r
 refine divmod_int (by omega) ?_ (.inl (PyProof.noPylong_of_log2 (h2.log (by decide))))
 rw[Int.fdiv_eq_ediv_of_nonneg i (by omega),Int.fmod_eq_emod_of_nonneg i (by omega)]
 have hn:H s.heap.objs.size=none:=I.bN.fresh (Nat.le_refl _)
 refine⟨.ref s.heap.objs.size,_,?_,rfl,q _ hn⟩
 refine I.laid (λ b o e=>Heap.get?_push_of_some _ e) (Nat.le_refl _) ⟨by simp only[List.length_cons,List.length_nil];rw[sizeLine_eq];decide,[.int (i / j) s.toks,.int (i % j) (s.toks+1)],.cons ⟨_,rfl⟩ (.cons ⟨_,rfl⟩ .nil),?_⟩
 exact⟨_,Heap.get?_push_size s.heap rfl,rfl,0,rfl⟩
theorem ue:∀ {bs:List Bool}{us:List Value},Vals (bs.map V.bl) us->∀ (i:Nat)(v:Value),us[i]? = some v->∃ b:Bool,bs[i]? = some b/\v=Value.bool b
 | [],us,r,i,v,e=>by
  cases r
  simp at e
 | b :: bs,us,r,i,v,e=>by
  cases r with
  | cons r1 r2=>
   cases i with
   | zero=>
    simp at e
    subst e
    exact⟨b,rfl,r1⟩
   | succ i=>
    obtain⟨b',e1,e2⟩:=ue r2 i v (by simpa using e)
    exact⟨b',by simpa using e1,e2⟩
theorem uK (bs:List Bool):((List.range bs.length).all λ i=>(bs[i]?).getD true)=bs.all id:=by
 rw[Bool.eq_iff_iff,List.all_eq_true,List.all_eq_true]
 constructor
 ·intro h b hb
  obtain⟨i,hi,e⟩:=List.getElem_of_mem hb
  have:=h i (List.mem_range.mpr hi)
  simp only[List.getElem?_eq_getElem hi,Option.getD_some,e]at this
  exact this
 ·intro h i hi
  have wC:=List.mem_range.mp hi
  simp only[List.getElem?_eq_getElem wC,Option.getD_some]
  exact h _ (List.getElem_mem wC)
theorem yi (hc:X.calm=true):cg X (.builtin "all") (λ xs H Q=>∃ (a:Addr) (bs:List Bool),xs=[.ref a]/\fJ X.K H a (bs.map V.bl)/\Q (.bl (bs.all id)) H):=by
 intro pins s σ H xs us Q I r h
 obtain⟨a,bs,rfl,ha,q⟩:=h
 obtain⟨u,rfl,ru⟩:=vals1 r
 cases ru
 obtain⟨its,rv,p,hz⟩:=I.list ha
 have hl:=p.isList
 have qX:a < s.heap.objs.size:=by obtain⟨_,e,_⟩:=hl;exact Heap.lt_size e
 refine call_all_walk (wpAny_pyIter_list hl ?_)
 refine⟨s.heap.objs.size,[s.heap.objs.size,a],[s.heap.objs.size],its.toArray.size,_,_,λ i=>(bs[i]?).getD true,rfl,Walks.list (A:=X.A.in1) (I.ok.hd hc) _ a (Nat.ne_of_lt qX) its.toArray,
  ⟨⟨_,Heap.get?_push_size _ rfl,rfl,rfl⟩,hl.push _⟩,λ i v s' Q' E' hP hQ=>?_,λ h' tk hk=>?_⟩
 ·obtain⟨b,e,rfl⟩:=ue rv i v (by simpa using hP)
  simp only[e,Option.getD_some]at hQ
  exact wpAny_truthy_bool hQ
 ·have e:((List.range its.toArray.size).all λ i=>(bs[i]?).getD true)=bs.all id:=by
   rw[List.size_toArray,<-rv.length,List.length_map];exact uK bs
  rw[e]
  refine⟨.bl _,H,I.kept (t':=tk) λ b x e=>hk b x (λ hm=>?_) (Heap.get?_push_of_some _ e),rfl,q⟩
  rw[List.mem_singleton.mp hm]at e
  exact Nat.lt_irrefl _ (Heap.lt_size e)
end
inductive Dt where
 | aY|bl (b:Bool)|int (i:Int)|str (x:Str)|tup (l:List Dt)|lst (l:List Dt)
mutual
def Dt.dep:Dt->Nat
 | .tup l=>dH l+1
 | .lst l=>dH l+1
 | _=>0
def dH:List Dt->Nat
 | []=>0
 | d :: r=>max d.dep (dH r)
end
mutual
def cN:Dt->Dt->Bool
 | .aY,.aY=>true
 | .bl a,.bl b=>a == b
 | .bl a,.int b=>(if a then 1 else 0) == b
 | .int a,.bl b=>a == (if b then 1 else 0)
 | .int a,.int b=>a == b
 | .str a,.str b=>a == b
 | .tup a,.tup b=>dv a b
 | .lst a,.lst b=>dv a b
 | _,_=>false
def dv:List Dt->List Dt->Bool
 | [],[]=>true
 | a :: r,b :: q=>cN a b && dv r q
 | _,_=>false
end
mutual
def Rep (K:PySem.W.Frag)(N:Addr->Prop)(H:Hp):Dt->V->Prop
 | .aY,v=>v=.aY
 | .bl b,v=>v=.bl b
 | .int i,v=>v=.int i
 | .str x,v=>v=.str x
 | .tup l,v=>∃ a xs,v=.ref a/\¬ N a/\gF K H a xs/\cV K N H l xs
 | .lst l,v=>∃ a xs,v=.ref a/\¬ N a/\fJ K H a xs/\cV K N H l xs
def cV (K:PySem.W.Frag)(N:Addr->Prop)(H:Hp):List Dt->List V->Prop
 | [],xs=>xs=[]
 | d :: r,xs=>∃ x ys,xs=x :: ys/\Rep K N H d x/\cV K N H r ys
end
def qx (N:Addr->Prop)(H H':Hp):Prop:=∀ b o,H b=some o->¬ N b->H' b=some o
theorem qx.HU {K:PySem.W.Frag}{N:Addr->Prop}{H H':Hp}{a:Addr}{xs:List V}(s:qx N H H')(n:¬ N a)(h:gF K H a xs):gF K H' a xs:=by
 rcases h with(h|⟨o,h⟩)|h
 ·exact .inl (.inl (s _ _ h n))
 ·exact .inl (.inr ⟨o,s _ _ h n⟩)
 ·exact .inr h
theorem qx.xp {K:PySem.W.Frag}{N:Addr->Prop}{H H':Hp}{a:Addr}{xs:List V}(s:qx N H H')(n:¬ N a)(h:fJ K H a xs):fJ K H' a xs:=by
 rcases h with(h|⟨o,h⟩)|h
 ·exact .inl (.inl (s _ _ h n))
 ·exact .inl (.inr ⟨o,s _ _ h n⟩)
 ·exact .inr h
mutual
theorem Rep.same {K:PySem.W.Frag}{N:Addr->Prop}{H H':Hp}(s:qx N H H'):∀ {d:Dt}{v:V},Rep K N H d v->Rep K N H' d v
 | .aY,_,h=>h
 | .bl _,_,h=>h
 | .int _,_,h=>h
 | .str _,_,h=>h
 | .tup l,v,h=>by
  unfold Rep at h ⊢
  obtain⟨a,xs,e,n,q,r⟩:=h
  exact⟨a,xs,e,n,s.HU n q,cV.same s r⟩
 | .lst l,v,h=>by
  unfold Rep at h ⊢
  obtain⟨a,xs,e,n,q,r⟩:=h
  exact⟨a,xs,e,n,s.xp n q,cV.same s r⟩
theorem cV.same {K:PySem.W.Frag}{N:Addr->Prop}{H H':Hp}(s:qx N H H'):∀ {l:List Dt}{xs:List V},cV K N H l xs->cV K N H' l xs
 | [],_,h=>h
 | d :: r,xs,h=>by
  unfold cV at h ⊢
  obtain⟨x,ys,e,h1,h2⟩:=h
  exact⟨x,ys,e,Rep.same s h1,cV.same s h2⟩
end
theorem cV.length {K:PySem.W.Frag}{N:Addr->Prop}{H:Hp}:∀ {l:List Dt}{xs:List V},cV K N H l xs->l.length=xs.length
 | [],xs,h=>by unfold cV at h;rw[h];rfl
 | d :: r,xs,h=>by
  unfold cV at h
  obtain⟨x,ys,rfl,_,h2⟩:=h
  rw[List.length_cons,List.length_cons,cV.length h2]
theorem cV.get {K:PySem.W.Frag}{N:Addr->Prop}{H:Hp}:∀ {l:List Dt}{xs:List V}{i:Nat}{d:Dt},cV K N H l xs->l[i]? = some d->∃ x,xs[i]? = some x/\Rep K N H d x
 | [],xs,i,d,h,e=>by simp at e
 | d0 :: r,xs,0,d,h,e=>by
  unfold cV at h
  obtain⟨x,ys,rfl,h1,_⟩:=h
  simp at e
  subst e
  exact⟨x,rfl,h1⟩
 | d0 :: r,xs,i+1,d,h,e=>by
  unfold cV at h
  obtain⟨x,ys,rfl,_,h2⟩:=h
  obtain⟨y,e1,e2⟩:=cV.get (i:=i) h2 (by simpa using e)
  exact⟨y,by simpa using e1,e2⟩
theorem jf:∀ {l q:List Dt},l.length≠q.length->dv l q=false
 | [],[],h=>absurd rfl h
 | [],_ :: _,_=>by simp[dv]
 | _ :: _,[],_=>by simp[dv]
 | a :: r,b :: q,h=>by
  simp only[dv]
  rw[jf (l:=r) (q:=q) (by simpa using h),Bool.and_false]
theorem gi:∀ {l q:List Dt},l.length=q.length->dv l q=(List.range l.length).all λ i=>match l[i]?,q[i]? with|some a,some b=>cN a b|_,_=>true
 | [],[],_=>by simp[dv]
 | a :: r,b :: q,h=>by
  simp only[dv]
  rw[gi (l:=r) (q:=q) (by simpa using h),List.length_cons,List.range_succ_eq_map,List.all_cons,List.all_map]
  simp[Function.comp_def]
theorem tZ:∀ {l:List Dt}{i:Nat}{d:Dt},l[i]? = some d->d.dep<=dH l
 | [],i,d,e=>by simp at e
 | a :: r,0,d,e=>by simp at e;subst e;simp only[dH];exact Nat.le_max_left _ _
 | a :: r,i+1,d,e=>by
  have:=tZ (l:=r) (i:=i) (d:=d) (by simpa using e)
  simp only[dH]
  exact Nat.le_trans this (Nat.le_max_right _ _)
section
variable {X:Cx}{pins:List (Addr × Obj)}{σ:St}{H:Hp}{s:Shared}{N N':Addr->Prop}
theorem sO (I:Inv X pins σ H s){a:Addr}{xs ys:List V}(h:fJ X.K H a xs)(k:gF X.K H a ys):False:=by
 obtain⟨its,_,p,_⟩:=I.list h
 obtain⟨cU,_,q,_⟩:=I.tuple k
 obtain⟨o,e,c,_⟩:=p.isList
 obtain⟨o2,e2,c2,_⟩:=q
 rw[e]at e2
 cases e2
 rw[c]at c2
 injection c2 with z
 exact absurd z (by decide)
mutual
theorem Rep.inj (I:Inv X pins σ H s):∀ {d e:Dt}{v:V},Rep X.K N H d v->Rep X.K N' H e v->d=e
 | .aY,.aY,_,_,_=>rfl
 | .aY,.bl _,_,h,k=>by unfold Rep at h k;rw[h]at k;cases k
 | .aY,.int _,_,h,k=>by unfold Rep at h k;rw[h]at k;cases k
 | .aY,.str _,_,h,k=>by unfold Rep at h k;rw[h]at k;cases k
 | .aY,.tup _,_,h,k=>by unfold Rep at h k;obtain⟨_,_,e,_⟩:=k;rw[h]at e;cases e
 | .aY,.lst _,_,h,k=>by unfold Rep at h k;obtain⟨_,_,e,_⟩:=k;rw[h]at e;cases e
 | .bl _,.aY,_,h,k=>by unfold Rep at h k;rw[h]at k;cases k
 | .bl x,.bl y,_,h,k=>by unfold Rep at h k;rw[h]at k;cases k;rfl
 | .bl _,.int _,_,h,k=>by unfold Rep at h k;rw[h]at k;cases k
 | .bl _,.str _,_,h,k=>by unfold Rep at h k;rw[h]at k;cases k
 | .bl _,.tup _,_,h,k=>by unfold Rep at h k;obtain⟨_,_,e,_⟩:=k;rw[h]at e;cases e
 | .bl _,.lst _,_,h,k=>by unfold Rep at h k;obtain⟨_,_,e,_⟩:=k;rw[h]at e;cases e
 | .int _,.aY,_,h,k=>by unfold Rep at h k;rw[h]at k;cases k
 | .int _,.bl _,_,h,k=>by unfold Rep at h k;rw[h]at k;cases k
 | .int x,.int y,_,h,k=>by unfold Rep at h k;rw[h]at k;cases k;rfl
 | .int _,.str _,_,h,k=>by unfold Rep at h k;rw[h]at k;cases k
 | .int _,.tup _,_,h,k=>by unfold Rep at h k;obtain⟨_,_,e,_⟩:=k;rw[h]at e;cases e
 | .int _,.lst _,_,h,k=>by unfold Rep at h k;obtain⟨_,_,e,_⟩:=k;rw[h]at e;cases e
 | .str _,.aY,_,h,k=>by unfold Rep at h k;rw[h]at k;cases k
 | .str _,.bl _,_,h,k=>by unfold Rep at h k;rw[h]at k;cases k
 | .str _,.int _,_,h,k=>by unfold Rep at h k;rw[h]at k;cases k
 | .str x,.str y,_,h,k=>by unfold Rep at h k;rw[h]at k;cases k;rfl
 | .str _,.tup _,_,h,k=>by unfold Rep at h k;obtain⟨_,_,e,_⟩:=k;rw[h]at e;cases e
 | .str _,.lst _,_,h,k=>by unfold Rep at h k;obtain⟨_,_,e,_⟩:=k;rw[h]at e;cases e
 | .tup _,.aY,_,h,k=>by unfold Rep at h k;obtain⟨_,_,e,_⟩:=h;rw[k]at e;cases e
 | .tup _,.bl _,_,h,k=>by unfold Rep at h k;obtain⟨_,_,e,_⟩:=h;rw[k]at e;cases e
 | .tup _,.int _,_,h,k=>by unfold Rep at h k;obtain⟨_,_,e,_⟩:=h;rw[k]at e;cases e
 | .tup _,.str _,_,h,k=>by unfold Rep at h k;obtain⟨_,_,e,_⟩:=h;rw[k]at e;cases e
 | .tup l,.tup q,_,h,k=>by
  unfold Rep at h k
  obtain⟨a,xs,rfl,_,h1,h2⟩:=h
  obtain⟨b,ys,e,_,k1,k2⟩:=k
  cases e
  have:=I.lC h1 k1
  subst this
  rw[cV.inj I h2 k2]
 | .tup _,.lst _,_,h,k=>by unfold Rep at h k;obtain⟨_,_,rfl,_,h1,_⟩:=h;obtain⟨_,_,e,_,k1,_⟩:=k;cases e;exact(sO I k1 h1).elim
 | .lst _,.aY,_,h,k=>by unfold Rep at h k;obtain⟨_,_,e,_⟩:=h;rw[k]at e;cases e
 | .lst _,.bl _,_,h,k=>by unfold Rep at h k;obtain⟨_,_,e,_⟩:=h;rw[k]at e;cases e
 | .lst _,.int _,_,h,k=>by unfold Rep at h k;obtain⟨_,_,e,_⟩:=h;rw[k]at e;cases e
 | .lst _,.str _,_,h,k=>by unfold Rep at h k;obtain⟨_,_,e,_⟩:=h;rw[k]at e;cases e
 | .lst _,.tup _,_,h,k=>by unfold Rep at h k;obtain⟨_,_,rfl,_,h1,_⟩:=h;obtain⟨_,_,e,_,k1,_⟩:=k;cases e;exact(sO I h1 k1).elim
 | .lst l,.lst q,_,h,k=>by
  unfold Rep at h k
  obtain⟨a,xs,rfl,_,h1,h2⟩:=h
  obtain⟨b,ys,e,_,k1,k2⟩:=k
  cases e
  have:=I.nX h1 k1
  subst this
  rw[cV.inj I h2 k2]
theorem cV.inj (I:Inv X pins σ H s):∀ {l q:List Dt}{xs:List V},cV X.K N H l xs->cV X.K N' H q xs->l=q
 | [],[],_,_,_=>rfl
 | [],_ :: _,_,h,k=>by unfold cV at h k;obtain⟨_,_,e,_⟩:=k;rw[h]at e;cases e
 | _ :: _,[],_,h,k=>by unfold cV at h k;obtain⟨_,_,e,_⟩:=h;rw[k]at e;cases e
 | a :: r,b :: q,xs,h,k=>by
  unfold cV at h k
  obtain⟨x,ys,rfl,h1,h2⟩:=h
  obtain⟨y,zs,e,k1,k2⟩:=k
  cases e
  rw[Rep.inj I h1 k1,cV.inj I h2 k2]
end
mutual
theorem oE:∀ d:Dt,cN d d=true
 | .aY=>by simp[cN]
 | .bl _=>by simp[cN]
 | .int _=>by simp[cN]
 | .str _=>by simp[cN]
 | .tup l=>by simp only[cN];exact lZ l
 | .lst l=>by simp only[cN];exact lZ l
theorem lZ:∀ l:List Dt,dv l l=true
 | []=>by simp[dv]
 | d :: r=>by simp only[dv,oE d,lZ r,Bool.and_self]
end
theorem gZ {A:Around}{k:Nat}(ih:∀ (d e:Dt){v w:V}{u z:Value},d.dep<=k->Rep X.K N H d v->Rep X.K N' H e w->RelV v u->RelV w z->SeqAt.EqAt A s u z (cN d e))
  {l q:List Dt}{xs ys:List V}{its cU:List Value}(hd:dH l<=k) (h:cV X.K N H l xs) (h':cV X.K N' H q ys) (r:Vals xs its) (r':Vals ys cU) :
  ∀ j (h1:j < its.toArray.size) (h2:j < cU.toArray.size),SeqAt.EqAt A s its.toArray[j] cU.toArray[j] (match l[j]?,q[j]? with|some a,some b=>cN a b|_,_=>true):=by
 intro j h1 h2
 have n1:l.length=its.length:=h.length.trans r.length
 have n2:q.length=cU.length:=h'.length.trans r'.length
 have j1:j < l.length:=by rw[n1];simpa using h1
 have j2:j < q.length:=by rw[n2];simpa using h2
 obtain⟨x,ex,rx⟩:=h.get (List.getElem?_eq_getElem j1)
 obtain⟨y,ey,ry⟩:=h'.get (List.getElem?_eq_getElem j2)
 obtain⟨u,eu,ru⟩:=r.get ex
 obtain⟨z,ez,rz⟩:=r'.get ey
 rw[List.getElem?_eq_getElem j1,List.getElem?_eq_getElem j2]
 have e1:its.toArray[j]=u:=by
  have:=List.getElem?_eq_some_iff.mp eu
  obtain⟨_,e⟩:=this
  simpa using e
 have e2:cU.toArray[j]=z:=by
  have:=List.getElem?_eq_some_iff.mp ez
  obtain⟨_,e⟩:=this
  simpa using e
 rw[e1,e2]
 exact ih _ _ (Nat.le_trans (tZ (List.getElem?_eq_getElem j1)) hd) rx ry ru rz
theorem j3 {l q:List Dt}{xs ys:List V}{its cU:List Value}(h:cV X.K N H l xs)(h':cV X.K N' H q ys)(r:Vals xs its)(r':Vals ys cU) :
  ((List.range (min its.toArray.size cU.toArray.size)).all (λ j=>match l[j]?,q[j]? with|some a,some b=>cN a b|_,_=>true) && its.toArray.size == cU.toArray.size)=dv l q:=by
 have n1:l.length=its.toArray.size:=by simpa using h.length.trans r.length
 have n2:q.length=cU.toArray.size:=by simpa using h'.length.trans r'.length
 rw[<-n1,<-n2]
 by_cases hn:l.length=q.length
 ·rw[gi hn,hn,Nat.min_self]
  simp
 ·rw[jf hn]
  have:(l.length == q.length)=false:=by simpa using hn
  rw[this,Bool.and_false]
theorem rp (I:Inv X pins σ H s):∀ (k:Nat) (A:Around),A.units+k < cLine->∀ (d e:Dt) {v w:V}{u z:Value},d.dep<=k->Rep X.K N H d v->Rep X.K N' H e w->RelV v u->RelV w z->SeqAt.EqAt A s u z (cN d e):=by
 intro k
 induction k with
 | zero=>
  intro A hA d e v w u z hd h h' r r'
  have hu:A.units < cLine:=by omega
  cases d with
  | tup l=>exact absurd hd (by simp[Dt.dep])
  | lst l=>exact absurd hd (by simp[Dt.dep])
  | aY=>
   unfold Rep at h
   subst h
   cases e with
   | aY=>
    unfold Rep at h'
    subst h'
    have:=a8 (A:=A) (s:=s) r r' rfl rfl
    simpa[cN,jA]using this
   | bl y=>
    unfold Rep at h'
    subst h'
    have:=a8 (A:=A) (s:=s) r r' rfl rfl
    simpa[cN,jA]using this
   | int y=>
    unfold Rep at h'
    subst h'
    have:=a8 (A:=A) (s:=s) r r' rfl rfl
    simpa[cN,jA]using this
   | str y=>
    unfold Rep at h'
    subst h'
    have:=a8 (A:=A) (s:=s) r r' rfl rfl
    simpa[cN,jA]using this
   | tup y=>
    unfold Rep at h'
    obtain⟨a,xs,rfl,_,q1,_⟩:=h'
    cases r'
    obtain⟨its,_,p,_⟩:=I.tuple q1
    cases r
    simp only[cN]
    exact SeqAt.EqAt.none_tuple p hu
   | lst y=>
    unfold Rep at h'
    obtain⟨a,xs,rfl,_,q1,_⟩:=h'
    cases r'
    obtain⟨its,_,p,_⟩:=I.list q1
    cases r
    simp only[cN]
    exact SeqAt.EqAt.none_list p.isList hu
  | bl x=>
   unfold Rep at h
   subst h
   cases e with
   | aY=>
    unfold Rep at h'
    subst h'
    have:=a8 (A:=A) (s:=s) r r' rfl rfl
    simpa[cN,jA]using this
   | bl y=>
    unfold Rep at h'
    subst h'
    have:=a8 (A:=A) (s:=s) r r' rfl rfl
    simpa[cN,jA]using this
   | int y=>
    unfold Rep at h'
    subst h'
    have:=a8 (A:=A) (s:=s) r r' rfl rfl
    simpa[cN,jA]using this
   | str y=>
    unfold Rep at h'
    subst h'
    have:=a8 (A:=A) (s:=s) r r' rfl rfl
    simpa[cN,jA]using this
   | tup y=>
    unfold Rep at h'
    obtain⟨a,xs,rfl,_,q1,_⟩:=h'
    cases r'
    obtain⟨its,_,p,_⟩:=I.tuple q1
    cases r
    simp only[cN]
    exact SeqAt.EqAt.bool_tuple x p hu
   | lst y=>
    unfold Rep at h'
    obtain⟨a,xs,rfl,_,q1,_⟩:=h'
    cases r'
    obtain⟨its,_,p,_⟩:=I.list q1
    cases r
    simp only[cN]
    exact SeqAt.EqAt.bool_list x p.isList hu
  | int x=>
   unfold Rep at h
   subst h
   cases e with
   | aY=>
    unfold Rep at h'
    subst h'
    have:=a8 (A:=A) (s:=s) r r' rfl rfl
    simpa[cN,jA]using this
   | bl y=>
    unfold Rep at h'
    subst h'
    have:=a8 (A:=A) (s:=s) r r' rfl rfl
    simpa[cN,jA]using this
   | int y=>
    unfold Rep at h'
    subst h'
    have:=a8 (A:=A) (s:=s) r r' rfl rfl
    simpa[cN,jA]using this
   | str y=>
    unfold Rep at h'
    subst h'
    have:=a8 (A:=A) (s:=s) r r' rfl rfl
    simpa[cN,jA]using this
   | tup y=>
    unfold Rep at h'
    obtain⟨a,xs,rfl,_,q1,_⟩:=h'
    cases r'
    obtain⟨its,_,p,_⟩:=I.tuple q1
    obtain⟨t,rfl⟩:=r
    simp only[cN]
    exact SeqAt.EqAt.int_tuple x t p hu
   | lst y=>
    unfold Rep at h'
    obtain⟨a,xs,rfl,_,q1,_⟩:=h'
    cases r'
    obtain⟨its,_,p,_⟩:=I.list q1
    obtain⟨t,rfl⟩:=r
    simp only[cN]
    exact SeqAt.EqAt.int_list x t p.isList hu
  | str x=>
   unfold Rep at h
   subst h
   cases e with
   | aY=>
    unfold Rep at h'
    subst h'
    have:=a8 (A:=A) (s:=s) r r' rfl rfl
    simpa[cN,jA]using this
   | bl y=>
    unfold Rep at h'
    subst h'
    have:=a8 (A:=A) (s:=s) r r' rfl rfl
    simpa[cN,jA]using this
   | int y=>
    unfold Rep at h'
    subst h'
    have:=a8 (A:=A) (s:=s) r r' rfl rfl
    simpa[cN,jA]using this
   | str y=>
    unfold Rep at h'
    subst h'
    have:=a8 (A:=A) (s:=s) r r' rfl rfl
    simpa[cN,jA]using this
   | tup y=>
    unfold Rep at h'
    obtain⟨a,xs,rfl,_,q1,_⟩:=h'
    cases r'
    obtain⟨its,_,p,_⟩:=I.tuple q1
    obtain⟨t,rfl⟩:=r
    simp only[cN]
    exact SeqAt.EqAt.str_tuple x t p hu
   | lst y=>
    unfold Rep at h'
    obtain⟨a,xs,rfl,_,q1,_⟩:=h'
    cases r'
    obtain⟨its,_,p,_⟩:=I.list q1
    obtain⟨t,rfl⟩:=r
    simp only[cN]
    exact SeqAt.EqAt.str_list x t p.isList hu
 | succ k ih=>
  intro A hA d e v w u z hd h h' r r'
  have hu:A.units < cLine:=by omega
  have OA:A.in1.units+k < cLine:=by have:A.in1.units=A.units+1:=rfl;omega
  cases d with
  | aY=>
   unfold Rep at h
   subst h
   cases e with
   | aY=>
    unfold Rep at h'
    subst h'
    have:=a8 (A:=A) (s:=s) r r' rfl rfl
    simpa[cN,jA]using this
   | bl y=>
    unfold Rep at h'
    subst h'
    have:=a8 (A:=A) (s:=s) r r' rfl rfl
    simpa[cN,jA]using this
   | int y=>
    unfold Rep at h'
    subst h'
    have:=a8 (A:=A) (s:=s) r r' rfl rfl
    simpa[cN,jA]using this
   | str y=>
    unfold Rep at h'
    subst h'
    have:=a8 (A:=A) (s:=s) r r' rfl rfl
    simpa[cN,jA]using this
   | tup y=>
    unfold Rep at h'
    obtain⟨a,xs,rfl,_,q1,_⟩:=h'
    cases r'
    obtain⟨its,_,p,_⟩:=I.tuple q1
    cases r
    simp only[cN]
    exact SeqAt.EqAt.none_tuple p hu
   | lst y=>
    unfold Rep at h'
    obtain⟨a,xs,rfl,_,q1,_⟩:=h'
    cases r'
    obtain⟨its,_,p,_⟩:=I.list q1
    cases r
    simp only[cN]
    exact SeqAt.EqAt.none_list p.isList hu
  | bl x=>
   unfold Rep at h
   subst h
   cases e with
   | aY=>
    unfold Rep at h'
    subst h'
    have:=a8 (A:=A) (s:=s) r r' rfl rfl
    simpa[cN,jA]using this
   | bl y=>
    unfold Rep at h'
    subst h'
    have:=a8 (A:=A) (s:=s) r r' rfl rfl
    simpa[cN,jA]using this
   | int y=>
    unfold Rep at h'
    subst h'
    have:=a8 (A:=A) (s:=s) r r' rfl rfl
    simpa[cN,jA]using this
   | str y=>
    unfold Rep at h'
    subst h'
    have:=a8 (A:=A) (s:=s) r r' rfl rfl
    simpa[cN,jA]using this
   | tup y=>
    unfold Rep at h'
    obtain⟨a,xs,rfl,_,q1,_⟩:=h'
    cases r'
    obtain⟨its,_,p,_⟩:=I.tuple q1
    cases r
    simp only[cN]
    exact SeqAt.EqAt.bool_tuple x p hu
   | lst y=>
    unfold Rep at h'
    obtain⟨a,xs,rfl,_,q1,_⟩:=h'
    cases r'
    obtain⟨its,_,p,_⟩:=I.list q1
    cases r
    simp only[cN]
    exact SeqAt.EqAt.bool_list x p.isList hu
  | int x=>
   unfold Rep at h
   subst h
   cases e with
   | aY=>
    unfold Rep at h'
    subst h'
    have:=a8 (A:=A) (s:=s) r r' rfl rfl
    simpa[cN,jA]using this
   | bl y=>
    unfold Rep at h'
    subst h'
    have:=a8 (A:=A) (s:=s) r r' rfl rfl
    simpa[cN,jA]using this
   | int y=>
    unfold Rep at h'
    subst h'
    have:=a8 (A:=A) (s:=s) r r' rfl rfl
    simpa[cN,jA]using this
   | str y=>
    unfold Rep at h'
    subst h'
    have:=a8 (A:=A) (s:=s) r r' rfl rfl
    simpa[cN,jA]using this
   | tup y=>
    unfold Rep at h'
    obtain⟨a,xs,rfl,_,q1,_⟩:=h'
    cases r'
    obtain⟨its,_,p,_⟩:=I.tuple q1
    obtain⟨t,rfl⟩:=r
    simp only[cN]
    exact SeqAt.EqAt.int_tuple x t p hu
   | lst y=>
    unfold Rep at h'
    obtain⟨a,xs,rfl,_,q1,_⟩:=h'
    cases r'
    obtain⟨its,_,p,_⟩:=I.list q1
    obtain⟨t,rfl⟩:=r
    simp only[cN]
    exact SeqAt.EqAt.int_list x t p.isList hu
  | str x=>
   unfold Rep at h
   subst h
   cases e with
   | aY=>
    unfold Rep at h'
    subst h'
    have:=a8 (A:=A) (s:=s) r r' rfl rfl
    simpa[cN,jA]using this
   | bl y=>
    unfold Rep at h'
    subst h'
    have:=a8 (A:=A) (s:=s) r r' rfl rfl
    simpa[cN,jA]using this
   | int y=>
    unfold Rep at h'
    subst h'
    have:=a8 (A:=A) (s:=s) r r' rfl rfl
    simpa[cN,jA]using this
   | str y=>
    unfold Rep at h'
    subst h'
    have:=a8 (A:=A) (s:=s) r r' rfl rfl
    simpa[cN,jA]using this
   | tup y=>
    unfold Rep at h'
    obtain⟨a,xs,rfl,_,q1,_⟩:=h'
    cases r'
    obtain⟨its,_,p,_⟩:=I.tuple q1
    obtain⟨t,rfl⟩:=r
    simp only[cN]
    exact SeqAt.EqAt.str_tuple x t p hu
   | lst y=>
    unfold Rep at h'
    obtain⟨a,xs,rfl,_,q1,_⟩:=h'
    cases r'
    obtain⟨its,_,p,_⟩:=I.list q1
    obtain⟨t,rfl⟩:=r
    simp only[cN]
    exact SeqAt.EqAt.str_list x t p.isList hu
  | tup l=>
   have h0:=h
   unfold Rep at h
   obtain⟨a,xs,rfl,na,q1,q2⟩:=h
   cases r
   obtain⟨its,r1,p1,_⟩:=I.tuple q1
   have Hv:dH l<=k:=by simp only[Dt.dep]at hd;omega
   cases e with
   | aY=>
    unfold Rep at h'
    subst h'
    cases r'
    simp only[cN]
    exact SeqAt.EqAt.tuple_none p1 hu
   | bl y=>
    unfold Rep at h'
    subst h'
    cases r'
    simp only[cN]
    exact SeqAt.EqAt.tuple_bool y p1 hu
   | int y=>
    unfold Rep at h'
    subst h'
    obtain⟨t,rfl⟩:=r'
    simp only[cN]
    exact SeqAt.EqAt.tuple_int y t p1 hu
   | str y=>
    unfold Rep at h'
    subst h'
    obtain⟨t,rfl⟩:=r'
    simp only[cN]
    exact SeqAt.EqAt.tuple_str y t p1 hu
   | tup q=>
    have JM:=h'
    unfold Rep at h'
    obtain⟨b,ys,rfl,nb,k1,k2⟩:=h'
    cases r'
    obtain⟨cU,r2,p2,_⟩:=I.tuple k1
    by_cases yo:a=b
    ·subst yo
     have:=Rep.inj I h0 JM
     rw[<-this,oE]
     exact SeqAt.EqAt.same _
    ·refine SeqAt.EqAt.of_refs yo ?_
     simp only[cN]
     have:=SeqAt.RcAt.tuples (A:=A) (s:=s) p1 p2 hu (gZ (A:=A.in1) (λ d e=>ih A.in1 OA d e) Hv q2 k2 r1 r2)
     rw[j3 q2 k2 r1 r2]at this
     exact this
   | lst q=>
    have JM:=h'
    unfold Rep at h'
    obtain⟨b,ys,rfl,nb,k1,k2⟩:=h'
    cases r'
    obtain⟨cU,r2,p2,_⟩:=I.list k1
    simp only[cN]
    exact SeqAt.EqAt.tuple_list p1 p2.isList hu
  | lst l=>
   have h0:=h
   unfold Rep at h
   obtain⟨a,xs,rfl,na,q1,q2⟩:=h
   cases r
   obtain⟨its,r1,p1,_⟩:=I.list q1
   have Hv:dH l<=k:=by simp only[Dt.dep]at hd;omega
   cases e with
   | aY=>
    unfold Rep at h'
    subst h'
    cases r'
    simp only[cN]
    exact SeqAt.EqAt.list_none p1.isList hu
   | bl y=>
    unfold Rep at h'
    subst h'
    cases r'
    simp only[cN]
    exact SeqAt.EqAt.list_bool y p1.isList hu
   | int y=>
    unfold Rep at h'
    subst h'
    obtain⟨t,rfl⟩:=r'
    simp only[cN]
    exact SeqAt.EqAt.list_int y t p1.isList hu
   | str y=>
    unfold Rep at h'
    subst h'
    obtain⟨t,rfl⟩:=r'
    simp only[cN]
    exact SeqAt.EqAt.list_str y t p1.isList hu
   | tup q=>
    have JM:=h'
    unfold Rep at h'
    obtain⟨b,ys,rfl,nb,k1,k2⟩:=h'
    cases r'
    obtain⟨cU,r2,p2,_⟩:=I.tuple k1
    simp only[cN]
    exact SeqAt.EqAt.list_tuple p1.isList p2 hu
   | lst q=>
    have JM:=h'
    unfold Rep at h'
    obtain⟨b,ys,rfl,nb,k1,k2⟩:=h'
    cases r'
    obtain⟨cU,r2,p2,_⟩:=I.list k1
    by_cases yo:a=b
    ·subst yo
     have:=Rep.inj I h0 JM
     rw[<-this,oE]
     exact SeqAt.EqAt.same _
    ·refine SeqAt.EqAt.of_refs yo ?_
     simp only[cN]
     have n1:l.length=its.toArray.size:=by simpa using q2.length.trans r1.length
     have n2:q.length=cU.toArray.size:=by simpa using k2.length.trans r2.length
     by_cases hn:l.length=q.length
     ·have:=SeqAt.RcAt.lists (A:=A) (s:=s) p1.isList p2.isList (by rw[<-n1,<-n2];exact hn) hu (gZ (A:=A.in1) (λ d e=>ih A.in1 OA d e) Hv q2 k2 r1 r2)
      rw[<-n1,<-gi hn]at this
      exact this
     ·rw[jf hn]
      refine SeqAt.RcAt.lists_lengths p1.isList p2.isList ?_ hu
      rw[<-n1,<-n2]
      simpa using hn
def Ib (K:PySem.W.Frag)(neg:Bool):R2:=λ x y H Q=>∃ (N N':Addr->Prop) (l q:List Dt) (c:Bool),(Rep K N H (if c then .tup l else .lst l) x/\Rep K N' H (if c then .tup q else .lst q) y)/\dH l<=20/\Q (.bl (if neg then !dv l q else dv l q)) H
theorem Fe (hu:X.A.units+30 < cLine):e_ X (compareOp .Eq) (Ib X.K false):=by
 intro pins s σ H x y v u Q I rx ry h
 obtain⟨N,N',l,q,c,⟨h1,h2⟩,hd,hq⟩:=h
 have F':X.A.units < cLine:=by omega
 have Ac:X.A.in1.units+20 < cLine:=by have:X.A.in1.units=X.A.units+1:=rfl;omega
 cases c with
 | true=>
  simp only[if_true]at h1 h2
  unfold Rep at h1 h2
  obtain⟨a,xs,rfl,_,q1,q2⟩:=h1
  obtain⟨b,ys,rfl,_,k1,k2⟩:=h2
  cases rx
  cases ry
  obtain⟨its,r1,p1,_⟩:=I.tuple q1
  obtain⟨cU,r2,p2,_⟩:=I.tuple k1
  have:=SeqAt.RcAt.tuples (A:=X.A) (s:=s) p1 p2 F' (gZ (A:=X.A.in1) (λ d e=>rp I 20 X.A.in1 Ac d e) hd q2 k2 r1 r2)
  rw[j3 q2 k2 r1 r2]at this
  exact this X.prog X.w _ _ ⟨.bl _,H,I,rfl,hq⟩
 | false=>
  simp only[Bool.false_eq_true,if_false]at h1 h2
  unfold Rep at h1 h2
  obtain⟨a,xs,rfl,_,q1,q2⟩:=h1
  obtain⟨b,ys,rfl,_,k1,k2⟩:=h2
  cases rx
  cases ry
  obtain⟨its,r1,p1,_⟩:=I.list q1
  obtain⟨cU,r2,p2,_⟩:=I.list k1
  have n1:l.length=its.toArray.size:=by simpa using q2.length.trans r1.length
  have n2:q.length=cU.toArray.size:=by simpa using k2.length.trans r2.length
  by_cases hn:l.length=q.length
  ·have:=SeqAt.RcAt.lists (A:=X.A) (s:=s) p1.isList p2.isList (by rw[<-n1,<-n2];exact hn) F' (gZ (A:=X.A.in1) (λ d e=>rp I 20 X.A.in1 Ac d e) hd q2 k2 r1 r2)
   rw[<-n1,<-gi hn]at this
   exact this X.prog X.w _ _ ⟨.bl _,H,I,rfl,hq⟩
  ·simp only[jf hn]at hq
   exact SeqAt.RcAt.lists_lengths p1.isList p2.isList (by rw[<-n1,<-n2];simpa using hn) F' X.prog X.w _ _ ⟨.bl _,H,I,rfl,hq⟩
theorem Fc (hu:X.A.units+30 < cLine):e_ X (compareOp .NotEq) (Ib X.K true):=by
 intro pins s σ H x y v u Q I rx ry h
 obtain⟨N,N',l,q,c,⟨h1,h2⟩,hd,hq⟩:=h
 have F':X.A.units < cLine:=by omega
 have Ac:X.A.in1.units+20 < cLine:=by have:X.A.in1.units=X.A.units+1:=rfl;omega
 cases c with
 | true=>
  simp only[if_true]at h1 h2
  unfold Rep at h1 h2
  obtain⟨a,xs,rfl,_,q1,q2⟩:=h1
  obtain⟨b,ys,rfl,_,k1,k2⟩:=h2
  cases rx
  cases ry
  obtain⟨its,r1,p1,_⟩:=I.tuple q1
  obtain⟨cU,r2,p2,_⟩:=I.tuple k1
  have:=SeqAt.RcNeAt.tuples (A:=X.A) (s:=s) p1 p2 F' (gZ (A:=X.A.in1) (λ d e=>rp I 20 X.A.in1 Ac d e) hd q2 k2 r1 r2)
  rw[j3 q2 k2 r1 r2]at this
  exact this X.prog X.w _ _ ⟨.bl _,H,I,rfl,hq⟩
 | false=>
  simp only[Bool.false_eq_true,if_false]at h1 h2
  unfold Rep at h1 h2
  obtain⟨a,xs,rfl,_,q1,q2⟩:=h1
  obtain⟨b,ys,rfl,_,k1,k2⟩:=h2
  cases rx
  cases ry
  obtain⟨its,r1,p1,_⟩:=I.list q1
  obtain⟨cU,r2,p2,_⟩:=I.list k1
  have n1:l.length=its.toArray.size:=by simpa using q2.length.trans r1.length
  have n2:q.length=cU.toArray.size:=by simpa using k2.length.trans r2.length
  by_cases hn:l.length=q.length
  ·have:=SeqAt.RcNeAt.lists (A:=X.A) (s:=s) p1.isList p2.isList (by rw[<-n1,<-n2];exact hn) F' (gZ (A:=X.A.in1) (λ d e=>rp I 20 X.A.in1 Ac d e) hd q2 k2 r1 r2)
   rw[<-n1,<-gi hn]at this
   exact this X.prog X.w _ _ ⟨.bl _,H,I,rfl,hq⟩
  ·simp only[jf hn]at hq
   exact SeqAt.RcNeAt.lists_lengths p1.isList p2.isList (by rw[<-n1,<-n2];simpa using hn) F' X.prog X.w _ _ ⟨.bl _,H,I,rfl,hq⟩
end
end L2
namespace L2
open PySem PySem.Spec PyProof.Rows
theorem gD.any {X:Cx}{scope:Scope}:∀ {l:List (Str × Option Nat)},gD X scope l->∀ {x:Str},(l.any λ p=>p.1 == x && p.2.isSome)=true->X.env.kindOf x=some .cell∨X.env.kindOf x=some .free
 | [],_,x,e=>by simp at e
 | (y,none) :: r,h,x,e=>gD.any (l:=r) h (by simpa using e)
 | (y,some k) :: r,h,x,e=>by
  rw[List.any_cons,Bool.or_eq_true]at e
  rcases e with e|e
  ·have:y=x:=by simpa using e
   subst this
   exact h.1.2.2
  ·exact gD.any (l:=r) h.2 e
theorem dS.of {X:Cx}{scope:Scope}{l:List (Str × Option Nat)}(hk:scope.kind=.function)(hc:∀ y∈scope.names,y.2=.cell->scope.names.lookup y.1=some .cell)(hn:∀ y∈scope.names,y.2=.local->scope.names.lookup y.1=some .local)
  (hf:∀ y∈scope.names,y.2=.free->(l.any λ p=>p.1 == y.1 && p.2.isSome)=true) (hs:gD X scope l):dS X scope l:=⟨hk,hc,hn,λ y hy P2=>hs.any (hf y hy P2),hs⟩
theorem g_ {i:Int}(h:bw 64 i):bw 9000 i:=h.mono (by decide)
end L2
namespace L2
open PySem PySem.Spec PyProof.Rows
def xh (c:Bool)(h:Heap)(i l:Addr)(k:Nat):Prop:=if c=true then h.IsTupleIter i l k else h.IsListIter i l k
def lA (c:Bool)(h:Heap)(l:Addr)(xs:Array Value):Prop:=if c=true then h.IsTuple l xs else h.IsList l xs
theorem xh.at {c:Bool}{h h':Heap}{i l:Addr}{k:Nat}(x:xh c h i l k)(e:∀ o,h.get? i=some o->h'.get? i=some o):xh c h' i l k:=by
 cases c with
 | true=>obtain⟨o,ho,r⟩:=(show h.IsTupleIter i l k from x);exact(show h'.IsTupleIter i l k from⟨o,e o ho,r⟩)
 | false=>obtain⟨o,ho,r⟩:=(show h.IsListIter i l k from x);exact(show h'.IsListIter i l k from⟨o,e o ho,r⟩)
theorem lA.at {c:Bool}{h h':Heap}{l:Addr}{xs:Array Value}(x:lA c h l xs)(e:∀ o,h.get? l=some o->h'.get? l=some o):lA c h' l xs:=by
 cases c with
 | true=>obtain⟨o,ho,r⟩:=(show h.IsTuple l xs from x);exact(show h'.IsTuple l xs from⟨o,e o ho,r⟩)
 | false=>obtain⟨o,ho,r⟩:=(show h.IsList l xs from x);exact(show h'.IsList l xs from⟨o,e o ho,r⟩)
theorem xh.obj {c:Bool}{h:Heap}{i l:Addr}{k:Nat}(x:xh c h i l k):∃ o,h.get? i=some o/\∀ v,o.data≠.cell v:=by
 cases c with
 | true=>obtain⟨o,ho,_,d⟩:=(show h.IsTupleIter i l k from x);exact⟨o,ho,λ v z=>by rw[d]at z;cases z⟩
 | false=>obtain⟨o,ho,_,d⟩:=(show h.IsListIter i l k from x);exact⟨o,ho,λ v z=>by rw[d]at z;cases z⟩
section
variable {prog:Program}{w:World}{A:Around}{E:Value->Shared->Prop}{s:Shared}
theorem nP {c:Bool}{i l:Addr}{k:Nat}{xs:Array Value}{v:Value}{Q:Value->Shared->Prop}(hi:xh c s.heap i l k)(hl:lA c s.heap l xs)(hx:xs[k]? = some v)
  (hQ:∀ h',xh c h' i l (k+1)->Heap.SameBut i s.heap h'->Q v { s with heap:=h' }):wpAny (model prog w) A (Builtin.SmallTypes.nextOf (.ref i)) Q E s:=by
 cases c with
 | false=>exact wpAny_nextOf_list_item hi hl hx hQ
 | true=>
  have wC:s.heap.IsTupleIter i l k:=hi
  obtain⟨o1,g1,g2,g3⟩:=id wC
  obtain⟨o2,f1,_,n2,f3⟩:=(show s.heap.IsTuple l xs from hl)
  unfold Builtin.SmallTypes.nextOf
  refine wpAny_bind (wpAny_callSpecial?_slot (name:=Str.ofString "__next__") wC.typeIs F.slot_tuple_iterator_next (wpAny_call_entry F.slot_tuple_iterator_next wC.typeIs F.entry_tuple_iterator_next ?_ (F.args_tuple_iterator_next_1 _)))
  show wpAny _ _ (field (.ref i) 0 >>= _) _ _ s
  refine wpAny_bind (wpAny_field g1 g3 (x:=.ref l) rfl ?_)
  show wpAny _ _ (if (Value.ref l == Value.none)=true then _ else _) _ _ s
  rw[if_neg (show ¬ ((Value.ref l == Value.none)=true) from Bool.false_ne_true)]
  show wpAny _ _ (field (.ref i) 1 >>= _) _ _ s
  refine wpAny_bind (wpAny_field g1 g3 (x:=.int k 0) rfl ?_)
  show wpAny _ _ (seqItems? (.ref l) >>= _) _ _ s
  refine wpAny_bind (wpAny_seqItems f1 f3 ?_)
  simp only[Int.toNat_natCast,hx]
  refine wpAny_bind (wpAny_setField g1 g3 (by simp) (wpAny_pure ⟨v,rfl,wpAny_pure (hQ _ (show Heap.IsTupleIter _ i l (k+1) from ?_) (Heap.SameBut.update ..))⟩))
  refine⟨_,Heap.get?_update_self _ g1 (Obj.isFreed_of_fields (Obj.data_mapFields g3 _)),(Obj.cls_mapFields ..).trans g2,?_⟩
  rw[Obj.data_mapFields g3]
  simp[rawInt]
theorem vZ {c:Bool}{i l:Addr}{k:Nat}{xs:Array Value}{Q:Value->Shared->Prop}(hh:A.handled=none)(hi:xh c s.heap i l k)(hl:lA c s.heap l xs)(hx:xs[k]? = none)
  (hE:∀ h' e,Heap.ExtBut i s.heap h'->(∃ o,h'.get? e=some o/\o.cls=.type "StopIteration")->E (.ref e) { s with heap:=h' }):wpAny (model prog w) A (Builtin.SmallTypes.nextOf (.ref i)) Q E s:=by
 cases c with
 | false=>exact wpAny_nextOf_list_end hh hi hl hx hE
 | true=>
  have wC:s.heap.IsTupleIter i l k:=hi
  obtain⟨o1,g1,g2,g3⟩:=id wC
  obtain⟨o2,f1,_,n2,f3⟩:=(show s.heap.IsTuple l xs from hl)
  unfold Builtin.SmallTypes.nextOf
  refine wpAny_bind (wpAny_callSpecial?_slot (name:=Str.ofString "__next__") wC.typeIs F.slot_tuple_iterator_next (wpAny_call_entry F.slot_tuple_iterator_next wC.typeIs F.entry_tuple_iterator_next ?_ (F.args_tuple_iterator_next_1 _)))
  show wpAny _ _ (field (.ref i) 0 >>= _) _ _ s
  refine wpAny_bind (wpAny_field g1 g3 (x:=.ref l) rfl ?_)
  show wpAny _ _ (if (Value.ref l == Value.none)=true then _ else _) _ _ s
  rw[if_neg (show ¬ ((Value.ref l == Value.none)=true) from Bool.false_ne_true)]
  show wpAny _ _ (field (.ref i) 1 >>= _) _ _ s
  refine wpAny_bind (wpAny_field g1 g3 (x:=.int k 0) rfl ?_)
  show wpAny _ _ (seqItems? (.ref l) >>= _) _ _ s
  refine wpAny_bind (wpAny_seqItems f1 f3 ?_)
  simp only[Int.toNat_natCast,hx]
  refine wpAny_bind (wpAny_rule (wpAny_bind (wpAny_setField g1 g3 (by simp) ?_)))
  show wpAny _ _ (newExc (.type "StopIteration") [] >>= _) _ _ _
  refine wpAny_bind ?_
  simp only[newExc,newTuple]
  refine wpAny_bind (wpAny_newObj_type ?_ (by size_fits))
  refine wpAny_bind (m:=firstArgMember _ _) (wpAny_of_eq (a:=Value.none) (by first|rfl|(simp only[firstArgMember];rfl)) ?_)
  refine wpAny_newObj_type ?_ (by size_fits)
  simp only[raiseNew]
  refine wpAny_bind (wpAny_handled ?_)
  first|rw[show A.in1.handled=none from hh]|rw[hh]
  refine wpAny_bind (wpAny_pure (wpAny_throw ?_))
  exact hE _ _ (((Heap.SameBut.update ..).extBut.push _).push _) ⟨_,Heap.get?_push_size _ rfl,rfl⟩
structure ZK (c1 c2:Bool)(h:Heap)(z a b i j l m:Addr)(k:Nat):Prop where
 zz:IsZip h z a b .none
 ins:IsPair h a (.ref i) (.ref j)
 out:∃ x y,IsPair h b x y
 i1:xh c1 h i l k
 i2:xh c2 h j m k
theorem A6 {c1 c2:Bool}{z a b i j l m:Addr}{k:Nat}{xs ys:Array Value}{x y:Value}{Q:Option Value->Shared->Prop}(D:ZipApart z a b i j l m)(Z:ZK c1 c2 s.heap z a b i j l m k)
  (p_:lA c1 s.heap l xs) (qY:lA c2 s.heap m ys) (hx:xs[k]? = some x) (hy:ys[k]? = some y)
  (hQ:∀ h',IsZip h' z a b (rawInt s.heap.objs.size)->IsPair h' a (.ref i) (.ref j)->IsPair h' b x y->xh c1 h' i l (k+1)->xh c2 h' j m (k+1)->IsPair h' s.heap.objs.size x y->
   (∀ d o,d≠z->d≠b->d≠i->d≠j->s.heap.get? d=some o->h'.get? d=some o)->Q (some (.ref s.heap.objs.size)) { s with heap:=h' }) :
  wpAny (model prog w) A (pyNext (.ref z)) Q E s:=by
 obtain⟨hz,A4,⟨p1,p2,CH⟩,h1,h2⟩:=Z
 have hT:s.TypeIs (.ref z) "zip":=⟨_,hz,rfl⟩
 unfold pyNext
 refine wpAny_bind (wpAny_attempt (wpAny_callSpecial?_slot (name:=Str.ofString "__next__") hT F.slot_zip_next (wpAny_call_entry F.slot_zip_next hT F.entry_zip_next ?_ (F.args_zip_next_1 _))))
 show wpAny _ _ (field (.ref z) 2 >>= _) _ _ _
 refine wpAny_bind (wpAny_field hz rfl (x:=.bool false) rfl ?_)
 show wpAny _ _ (field (.ref z) 3 >>= _) _ _ _
 refine wpAny_bind (wpAny_field hz rfl (x:=.ref a) rfl ?_)
 refine wpAny_bind (wpAny_seqItems A4 rfl ?_)
 show wpAny _ _ (Builtin.SmallTypes.ownedTupleIsFree (.ref z) >>= _) _ _ _
 refine wpAny_bind ?_
 unfold Builtin.SmallTypes.ownedTupleIsFree
 refine wpAny_bind (wpAny_field hz rfl (x:=.none) rfl (wpAny_pure ?_))
 simp only[if_true]
 refine wpAny_bind (wpAny_rule ?_)
 refine wpAny_bind (wpAny_field hz rfl (x:=.ref b) rfl ?_)
 refine wpAny_bind (wpAny_setField_rec hz (by simp) λ q1 z1 t1=>?_)
 replace z1:IsZip q1 z a b .ellipsis:=z1
 refine wpAny_bind ?_
 simp only[List.zipIdx_cons,List.zipIdx_nil,List.forIn_cons,List.forIn_nil]
 refine wpAny_bind (wpAny_bind (wpAny_onRaise ?_))
 show wpAny _ _ (Builtin.SmallTypes.nextOf (.ref i) >>= _) _ _ _
 refine wpAny_bind (nP (s:={ s with heap:=q1 }) (h1.at λ o e=>t1.extBut _ _ D.i1z e) (p_.at λ o e=>t1.extBut _ _ D.l1z e) hx λ q2 i2 t2=>wpAny_pure ?_)
 have b2:IsPair q2 b p1 p2:=t2.extBut _ _ D.TOi1 (t1.extBut _ _ D.TOz CH)
 refine wpAny_bind (wpAny_seqItems b2 rfl ?_)
 refine wpAny_bind (wpAny_updateSeq_pair b2 λ q3 b3 t3=>?_)
 replace b3:IsPair q3 b x p2:=b3
 refine wpAny_bind (wpAny_letGo (wpAny_pure ?_))
 refine wpAny_bind (wpAny_bind (wpAny_onRaise ?_))
 show wpAny _ _ (Builtin.SmallTypes.nextOf (.ref j) >>= _) _ _ _
 refine wpAny_bind (nP (s:={ s with heap:=q3 }) (h2.at λ o e=>t3.extBut _ _ D.TOi2.symm (t2.extBut _ _ D.i12.symm (t1.extBut _ _ D.i2z e)))
  (qY.at λ o e=>t3.extBut _ _ D.l2TO (t2.extBut _ _ D.l2i1 (t1.extBut _ _ D.l2z e))) hy λ q4 j4 t4=>wpAny_pure ?_)
 have b4:IsPair q4 b x p2:=t4.extBut _ _ D.TOi2 b3
 refine wpAny_bind (wpAny_seqItems b4 rfl ?_)
 refine wpAny_bind (wpAny_updateSeq_pair b4 λ q5 b5 t5=>?_)
 replace b5:IsPair q5 b x y:=b5
 refine wpAny_bind (wpAny_letGo (wpAny_pure (wpAny_pure ?_)))
 refine wpAny_bind (wpAny_seqItems b5 rfl ?_)
 refine wpAny_bind (wpAny_newTuple ?_)
 have hsz:q5.objs.size=s.heap.objs.size:=by rw[t5.1,t4.1,t3.1,t2.1,t1.1]
 have z5:IsZip q5 z a b .ellipsis:=t5.extBut _ _ D.TOz.symm (t4.extBut _ _ D.i2z.symm (t3.extBut _ _ D.TOz.symm (t2.extBut _ _ D.i1z.symm z1)))
 have k5:∀ d o,d≠z->d≠b->d≠i->d≠j->s.heap.get? d=some o->q5.get? d=some o:=λ d o e1 e2 e3 e4 e=>
  t5.extBut _ _ e2 (t4.extBut _ _ e4 (t3.extBut _ _ e2 (t2.extBut _ _ e3 (t1.extBut _ _ e1 e))))
 have i5:xh c1 q5 i l (k+1):=i2.at λ o e=>t5.extBut _ _ D.TOi1.symm (t4.extBut _ _ D.i12 (t3.extBut _ _ D.TOi1.symm e))
 have j5:xh c2 q5 j m (k+1):=j4.at λ o e=>t5.extBut _ _ D.TOi2.symm e
 have NH:z < q5.objs.size:=Heap.lt_size z5
 show wpAny _ _ (Builtin.SmallTypes.ownedTupleHandOut (.ref z) (.ref q5.objs.size) >>= _) _ _ _
 refine wpAny_bind ?_
 unfold Builtin.SmallTypes.ownedTupleHandOut
 have z6:IsZip (q5.push { cls:=.type "tuple",data:=.seq #[x,y] }) z a b .ellipsis:=Heap.get?_push_of_some _ z5
 refine wpAny_bind (wpAny_setField_rec z6 (by simp) λ q7 z7 t7=>?_)
 replace z7:IsZip q7 z a b (rawInt q5.objs.size):=z7
 refine wpAny_setField_rec z7 (by simp) λ q8 z8 t8=>?_
 replace z8:IsZip q8 z a b (rawInt q5.objs.size):=z8
 have up:∀ d o,d≠z->q5.get? d=some o->q8.get? d=some o:=λ d o e1 e=>t8.extBut _ _ e1 (t7.extBut _ _ e1 (Heap.get?_push_of_some _ e))
 have T8:IsPair q8 q5.objs.size x y:=t8.extBut _ _ (Nat.ne_of_gt NH) (t7.extBut _ _ (Nat.ne_of_gt NH) (Heap.get?_push_size _ rfl))
 rw[hsz]at z8 T8
 refine wpAny_pure ⟨_,rfl,wpAny_pure ?_⟩
 show Q (some (.ref q5.objs.size)) _
 rw[hsz]
 exact hQ q8 z8 (up _ _ D.TIz (k5 _ _ D.TIz D.TITO D.TIi1 D.TIi2 A4)) (up _ _ D.TOz b5) (i5.at λ o e=>up _ o D.i1z e) (j5.at λ o e=>up _ o D.i2z e) T8 λ d o e1 e2 e3 e4 e=>up d o e1 (k5 d o e1 e2 e3 e4 e)
theorem DV {c1 c2:Bool}{z a b i j l m:Addr}{k:Nat}{xs ys:Array Value}{Q:Option Value->Shared->Prop}(hh:A.handled=none)(D:ZipApart z a b i j l m)(Z:ZK c1 c2 s.heap z a b i j l m k)
  (p_:lA c1 s.heap l xs) (qY:lA c2 s.heap m ys) (CF:xs[k]? = none∨ys[k]? = none)
  (hQ:∀ h',(∀ d o,d≠z->d≠b->d≠i->d≠j->s.heap.get? d=some o->h'.get? d=some o)->Q none { s with heap:=h' }):wpAny (model prog w) A (pyNext (.ref z)) Q E s:=by
 obtain⟨hz,A4,⟨p1,p2,CH⟩,h1,h2⟩:=Z
 have hT:s.TypeIs (.ref z) "zip":=⟨_,hz,rfl⟩
 unfold pyNext
 have last:∀ h' e,(∀ d o,d≠z->d≠b->d≠i->d≠j->s.heap.get? d=some o->h'.get? d=some o)->(∃ o,h'.get? e=some o/\o.cls=.type "StopIteration")->
   wpAny (model prog w) A (do if <-isInstance (.ref e) (.type "StopIteration") then pure none else throw (.ref e):Sem (Option Value)) Q E { s with heap:=h' }:=λ h' e hk ⟨o,ho,hc⟩=>
  wpAny_bind (wpAny_isInstance (T:="StopIteration") (b:=true) ⟨o,ho,hc⟩ isSubtype_stop (wpAny_pure (hQ h' hk)))
 refine wpAny_bind (wpAny_attempt (wpAny_callSpecial?_slot (name:=Str.ofString "__next__") hT F.slot_zip_next (wpAny_call_entry F.slot_zip_next hT F.entry_zip_next ?_ (F.args_zip_next_1 _))))
 show wpAny _ _ (field (.ref z) 2 >>= _) _ _ _
 refine wpAny_bind (wpAny_field hz rfl (x:=.bool false) rfl ?_)
 show wpAny _ _ (field (.ref z) 3 >>= _) _ _ _
 refine wpAny_bind (wpAny_field hz rfl (x:=.ref a) rfl ?_)
 refine wpAny_bind (wpAny_seqItems A4 rfl ?_)
 show wpAny _ _ (Builtin.SmallTypes.ownedTupleIsFree (.ref z) >>= _) _ _ _
 refine wpAny_bind ?_
 unfold Builtin.SmallTypes.ownedTupleIsFree
 refine wpAny_bind (wpAny_field hz rfl (x:=.none) rfl (wpAny_pure ?_))
 simp only[if_true]
 refine wpAny_bind (wpAny_rule ?_)
 refine wpAny_bind (wpAny_field hz rfl (x:=.ref b) rfl ?_)
 refine wpAny_bind (wpAny_setField_rec hz (by simp) λ q1 z1 t1=>?_)
 replace z1:IsZip q1 z a b .ellipsis:=z1
 refine wpAny_bind ?_
 simp only[List.zipIdx_cons,List.zipIdx_nil,List.forIn_cons,List.forIn_nil]
 refine wpAny_bind (wpAny_bind (wpAny_onRaise ?_))
 show wpAny _ _ (Builtin.SmallTypes.nextOf (.ref i) >>= _) _ _ _
 cases hx:xs[k]? with
 | none=>
  refine wpAny_bind (vZ (s:={ s with heap:=q1 }) hh (h1.at λ o e=>t1.extBut _ _ D.i1z e) (p_.at λ o e=>t1.extBut _ _ D.l1z e) hx λ q2 e t2 he=>?_)
  obtain⟨oe,Gi,JE⟩:=he
  have z2:IsZip q2 z a b .ellipsis:=t2 _ _ D.i1z.symm z1
  have MH:e≠z:=λ x=>by subst x;rw[z2]at Gi;cases Gi;simp at JE
  refine wpAny_setField_rec z2 (by simp) λ q3 _ t3=>?_
  exact last q3 e (λ d o e1 _ e3 _ x=>t3.extBut _ _ e1 (t2 _ _ e3 (t1.extBut _ _ e1 x))) ⟨oe,t3.extBut _ _ MH Gi,JE⟩
 | some x=>
  have hy:ys[k]? = none:=by
   rcases CF with h|h
   ·rw[hx]at h;cases h
   ·exact h
  refine wpAny_bind (nP (s:={ s with heap:=q1 }) (h1.at λ o e=>t1.extBut _ _ D.i1z e) (p_.at λ o e=>t1.extBut _ _ D.l1z e) hx λ q2 i2 t2=>wpAny_pure ?_)
  have b2:IsPair q2 b p1 p2:=t2.extBut _ _ D.TOi1 (t1.extBut _ _ D.TOz CH)
  refine wpAny_bind (wpAny_seqItems b2 rfl ?_)
  refine wpAny_bind (wpAny_updateSeq_pair b2 λ q3 b3 t3=>?_)
  refine wpAny_bind (wpAny_letGo (wpAny_pure ?_))
  refine wpAny_bind (wpAny_bind (wpAny_onRaise ?_))
  show wpAny _ _ (Builtin.SmallTypes.nextOf (.ref j) >>= _) _ _ _
  refine wpAny_bind (vZ (s:={ s with heap:=q3 }) hh (h2.at λ o e=>t3.extBut _ _ D.TOi2.symm (t2.extBut _ _ D.i12.symm (t1.extBut _ _ D.i2z e)))
   (qY.at λ o e=>t3.extBut _ _ D.l2TO (t2.extBut _ _ D.l2i1 (t1.extBut _ _ D.l2z e))) hy λ q4 e t4 he=>?_)
  obtain⟨oe,Gi,JE⟩:=he
  have z4:IsZip q4 z a b .ellipsis:=t4 _ _ D.i2z.symm (t3.extBut _ _ D.TOz.symm (t2.extBut _ _ D.i1z.symm z1))
  have MH:e≠z:=λ x=>by subst x;rw[z4]at Gi;cases Gi;simp at JE
  refine wpAny_setField_rec z4 (by simp) λ q5 _ t5=>?_
  exact last q5 e (λ d o e1 e2 e3 e4 x=>t5.extBut _ _ e1 (t4 _ _ e4 (t3.extBut _ _ e2 (t2.extBut _ _ e3 (t1.extBut _ _ e1 x))))) ⟨oe,t5.extBut _ _ MH Gi,JE⟩
theorem zq (l m:Addr)(xs ys:Array Value) :
  Meets (Builtin.«zip.__new__» ⟨[.type "zip",.ref l,.ref m],[]⟩) (λ _ R s=>s.heap.IsTuple l xs/\s.heap.IsTuple m ys/\
   R (.ok (.ret (.ref (s.heap.objs.size+4)))) { s with heap:=((((s.heap.push { cls:=.type "tuple_iterator",data:=.fields #[.ref l,.int 0 0] }).push { cls:=.type "tuple_iterator",data:=.fields #[.ref m,.int 0 0] }).push
    { cls:=.type "tuple",data:=.seq #[.ref s.heap.objs.size,.ref (s.heap.objs.size+1)] }).push { cls:=.type "tuple",data:=.seq #[.none,.none] }).push { cls:=.type "zip",data:=.fields #[.none,.bool false,.bool false,.ref (s.heap.objs.size+2),.ref (s.heap.objs.size+3)] } }):=
 .of_wp λ prog w A R s h=>by
  obtain⟨hp,g,d,tk,os⟩:=s;obtain⟨p_,qY,h⟩:=h
  have Ml:=sub_zip
  have MP:Heap.IsTuple (Shared.heap ⟨hp,g,d,tk,os⟩) l xs:=p_
  have MO:Heap.IsTuple (Shared.heap ⟨hp.push { cls:=.type "tuple_iterator",data:=.fields #[.ref l,.int 0 0] },g,d,tk,os⟩) m ys:=Heap.IsTuple.push qY _
  wp_walk using wpAny_pyIter_tuple MP,wpAny_pyIter_tuple MO
  simp only[Heap.size_push]at h ⊢
  exact⟨_,rfl,h⟩
theorem r8 {c:Bool}{l m:Addr}{xs ys:Array Value}{Q:Value->Shared->Prop}(p_:lA c s.heap l xs)(qY:lA c s.heap m ys)
  (k:∀ h',ZK c c h' (s.heap.objs.size+4) (s.heap.objs.size+2) (s.heap.objs.size+3) s.heap.objs.size (s.heap.objs.size+1) l m 0->(∀ d o,s.heap.get? d=some o->h'.get? d=some o)->Q (.ref (s.heap.objs.size+4)) { s with heap:=h' }) :
  wpAny (model prog w) A (call (.type "zip") [.ref l,.ref m]) Q E s:=by
 cases c with
 | false=>exact call_zip_2 p_ qY λ h' hz A4 CH Qy Hs _ hk=>k h' ⟨hz,A4,⟨_,_,CH⟩,Qy,Hs⟩ hk
 | true=>
  refine callType_new F.called_zip (by decide) (F.typeCall_zip_2 _ _) (F.newCall_zip_2 _ _) (λ obj=>F.args_object_init_3 obj _ _) F.entry_zip_new (zq l m xs ys) ⟨p_,qY,?_⟩
  have p:∀ (h:Heap) (o1 o2 o3 o4 o5:Obj) (d:Addr) (o:Obj),h.get? d=some o->(((((h.push o1).push o2).push o3).push o4).push o5).get? d=some o:=λ h o1 o2 o3 o4 o5 d o e=>
   Heap.get?_push_of_some _ (Heap.get?_push_of_some _ (Heap.get?_push_of_some _ (Heap.get?_push_of_some _ (Heap.get?_push_of_some _ e))))
  have q5:∀ (h:Heap) (o1 o2 o3 o4 o5:Obj),o5.isFreed=false->(((((h.push o1).push o2).push o3).push o4).push o5).get? (h.objs.size+4)=some o5:=λ h o1 o2 o3 o4 o5 f=>by
   have e:h.objs.size+4=((((h.push o1).push o2).push o3).push o4).objs.size:=by simp only[Heap.size_push]
   rw[e];exact Heap.get?_push_size _ f
  have q4:∀ (h:Heap) (o1 o2 o3 o4 o5:Obj),o4.isFreed=false->(((((h.push o1).push o2).push o3).push o4).push o5).get? (h.objs.size+3)=some o4:=λ h o1 o2 o3 o4 o5 f=>by
   have e:h.objs.size+3=(((h.push o1).push o2).push o3).objs.size:=by simp only[Heap.size_push]
   rw[e];exact Heap.get?_push_of_some _ (Heap.get?_push_size _ f)
  have q3:∀ (h:Heap) (o1 o2 o3 o4 o5:Obj),o3.isFreed=false->(((((h.push o1).push o2).push o3).push o4).push o5).get? (h.objs.size+2)=some o3:=λ h o1 o2 o3 o4 o5 f=>by
   have e:h.objs.size+2=((h.push o1).push o2).objs.size:=by simp only[Heap.size_push]
   rw[e];exact Heap.get?_push_of_some _ (Heap.get?_push_of_some _ (Heap.get?_push_size _ f))
  have q2:∀ (h:Heap) (o1 o2 o3 o4 o5:Obj),o2.isFreed=false->(((((h.push o1).push o2).push o3).push o4).push o5).get? (h.objs.size+1)=some o2:=λ h o1 o2 o3 o4 o5 f=>by
   have e:h.objs.size+1=(h.push o1).objs.size:=by simp only[Heap.size_push]
   rw[e];exact Heap.get?_push_of_some _ (Heap.get?_push_of_some _ (Heap.get?_push_of_some _ (Heap.get?_push_size _ f)))
  have q1:∀ (h:Heap) (o1 o2 o3 o4 o5:Obj),o1.isFreed=false->(((((h.push o1).push o2).push o3).push o4).push o5).get? h.objs.size=some o1:=λ h o1 o2 o3 o4 o5 f=>
   Heap.get?_push_of_some _ (Heap.get?_push_of_some _ (Heap.get?_push_of_some _ (Heap.get?_push_of_some _ (Heap.get?_push_size _ f))))
  exact⟨⟨_,q5 _ _ _ _ _ _ rfl,rfl⟩,k _ ⟨q5 _ _ _ _ _ _ rfl,q3 _ _ _ _ _ _ rfl,⟨_,_,q4 _ _ _ _ _ _ rfl⟩,⟨_,q1 _ _ _ _ _ _ rfl,rfl,rfl⟩,⟨_,q2 _ _ _ _ _ _ rfl,rfl,rfl⟩⟩ λ d o e=>p _ _ _ _ _ _ d o e⟩
end
def rR (c:Bool)(K:PySem.W.Frag)(H:Hp)(a:Addr)(xs:List V):Prop:=if c=true then gF K H a xs else fJ K H a xs
theorem Inv.Hj {X:Cx}{pins:List (Addr × Obj)}{σ:St}{H:Hp}{s:Shared}{c:Bool}{a:Addr}{xs:List V}(I:Inv X pins σ H s)(h:rR c X.K H a xs):∃ its:List Value,Vals xs its/\lA c s.heap a its.toArray:=by
 cases c with
 | true=>obtain⟨its,r,p,_⟩:=I.tuple (show gF X.K H a xs from h);exact⟨its,r,p⟩
 | false=>obtain⟨its,r,p,_⟩:=I.list (show fJ X.K H a xs from h);exact⟨its,r,p.isList⟩
theorem Inv.vF {X:Cx}{pins:List (Addr × Obj)}{σ:St}{H:Hp}{s:Shared}{c:Bool}{a:Addr}{xs ys:List V}(I:Inv X pins σ H s)(h:rR c X.K H a xs)(k:rR c X.K H a ys):xs=ys:=by
 cases c with
 | true=>exact I.lC (show gF X.K H a xs from h) k
 | false=>exact I.nX (show fJ X.K H a xs from h) k
end L2
namespace L2
open PySem PySem.Spec PyProof.Rows
end L2
namespace L2
open PySem PySem.Spec PyProof.Rows
end L2
namespace L2
open PySem PySem.Spec PyProof.Rows
theorem Bp {α:Type}(l:List α):(List.range l.length).filterMap (λ k=>l[l.length - 1 - k]?)=l.reverse:=by
 have hm:∀ n,n<=l.length->(List.range n).filterMap (λ k=>l[l.length - 1 - k]?)=l.reverse.take n:=by
  intro n
  induction n with
  | zero=>intro _;rfl
  | succ n ih=>
   intro hn
   rw[List.range_succ,List.filterMap_append,ih (by omega),List.take_succ]
   congr 1
   rw[List.getElem?_reverse (by omega),List.getElem?_eq_getElem (show l.length - 1 - n < l.length by omega)]
   simp[show l.length - 1 - n < l.length by omega]
 rw[hm _ (Nat.le_refl _),List.take_of_length_le (by rw[List.length_reverse];exact Nat.le_refl _)]
theorem oZ (its:List Value):slicePick its.toArray none none (some (-1))=its.reverse.toArray:=by
 unfold slicePick
 have e:sliceBounds none none (some (-1)) its.toArray.size=((its.length:Int) - 1,-1,-1):=by
  simp[sliceBounds]
 rw[e]
 have e2:sliceRange ((its.length:Int) - 1) (-1) (-1)=(List.range its.length).map λ k=>its.length - 1 - k:=by
  unfold sliceRange
  rw[if_neg (by decide)]
  by_cases h:its.length=0
  ·rw[h];simp
  ·rw[if_pos (by omega)]
   have e3:((its.length:Int) - 1 - -1 - -1 - 1) / (- -1)=(its.length:Int):=by
    have:(- -1:Int)=1:=by decide
    rw[this,Int.ediv_one];omega
   rw[e3]
   show(List.range ((its.length:Int)).toNat).map _=_
   rw[Int.toNat_natCast]
   refine List.map_congr_left λ k hk=>?_
   have:=List.mem_range.mp hk
   omega
 rw[e2,List.filterMap_map]
 congr 1
 rw[<-Bp its]
 refine congrArg (λ f=>List.filterMap f (List.range its.length)) (funext λ k=>?_)
 simp
theorem Vals.rev:∀ {xs:List V}{us:List Value},Vals xs us->Vals xs.reverse us.reverse
 | _,_,.nil=>.nil
 | _,_,.cons r t=>by
  rw[List.reverse_cons,List.reverse_cons]
  exact Vals.append (Vals.rev t) (.cons r .nil)
def HE (K:PySem.W.Frag)(te ts:TE):TE:=λ σ H Q=>te σ H λ x H1=>ts σ H1 λ y H2=>y=.int (-1)/\∃ a xs,x=.ref a/\fJ K H2 a xs/\∀ p,H2 p=none->Q (.ref p) (upd H2 p (.lst xs.reverse))
theorem ET {X:Cx}{e st:Expr}{te ts:TE}{p2 pos:Pos}(he:PE X e te)(A1:PE X st ts):PE X (.Subscript e (.Slice none none (some st) p2) pos) (HE X.K te ts):=by
 intro pins s σ H Q I h
 refine Subscript_ (bO (he pins s σ H _ I h) λ v s1 ⟨x,H1,I1,r1,q1⟩=>?_)
 refine wpAny_Slice ?_
 rw[evalPart_none]
 refine wpAny_pure (wpAny_pure ?_)
 rw[evalPart_some]
 refine bO (A1 pins s1 σ H1 _ I1 q1) λ vs s3 ⟨y,H3,I3,r3,e3,q3⟩=>?_
 subst e3
 obtain⟨a,xs,rfl,hx,q⟩:=q3
 cases r1
 obtain⟨t3,rfl⟩:=r3
 have I4:Inv X pins σ H3 { s3 with heap:=s3.heap.push { cls:=.type "slice",data:=.fields #[Value.none,Value.none,Value.int (-1) t3] } }:=I3.kept (t':=s3.toks) λ b ob q=>Heap.get?_push_of_some _ q
 obtain⟨its,r,ht,hz⟩:=I4.list hx
 have hlen:=r.length
 show wpAny (model X.prog X.w) X.A (subscriptTail e (.Slice none none (some st) p2) (.ref a) (.ref s3.heap.objs.size)) (EP X pins σ Q) X.xe { s3 with heap:=s3.heap.push { cls:=.type "slice",data:=.fields #[Value.none,Value.none,Value.int (-1) t3] } }
 refine tail_any (ops:=[.ref a,.ref s3.heap.objs.size]) ht.isList.typeIs slot_list_getitem.lookup ?_ (by with_unfolding_all rfl)
 refine wpAny_getItem_list_slice ht.isList (Heap.IsSliceOf.new ..) .none .none (.int (-1) t3) (by simp) ?_ (by rw[List.size_toArray];omega)
 rw[oZ]
 refine⟨.ref _,_,I4.laid (t':=s3.toks) (o:=.lst xs.reverse) (λ b ob q=>Heap.get?_push_of_some _ q) (Nat.le_refl _) ?_,rfl,q _ (I4.bN.fresh (Nat.le_refl _))⟩
 exact⟨by rw[List.length_reverse];exact hz,_,0,r.rev,Heap.get?_push_size _ rfl⟩
theorem gF.const {K:PySem.W.Frag}{H:Hp}{a:Addr}{od:Option Addr}{its:Array Value}{n:Nat}{sl:Array (Option Value)}{xs:List V}(h:K.lookup a=some ⟨.type "tuple",od,.seq its n,sl⟩)(v:Vals xs its.toList)(hz:xs.length<=1000):gF K H a xs:=
 .inr ⟨_,its,n,h,rfl,rfl,by
  have h2:xs.length=its.size:=v.length
  rw[<-h2]
  exact Nat.le_of_lt (a4 hz),v⟩
end L2
namespace L2
open PySem PySem.Spec PyProof.Rows
theorem EZ {X:Cx}{K:PySem.W.Frag}{o e:Expr}{es:List Expr}{to:TE}{t:TA}{name:Str}{apos eR:Pos}{T id:String}{r:V->List V->Hp->VK->Prop}(hK:X.K=K)(pa:PlainAttrs T)(slot:Slot T name id)(Ga:typeOf (.builtin id)=pure (.type "method_descriptor")) (hm:DR X id r)(ho:PE X o to)(ha:PA X (e :: es) t)
  (kY:attributeBase o name X.env (eval o X.env)=eval o X.env:=by rfl)
  (Aj:((backTo eR (starEach (e :: es) X.env)).all (λ x=>!x.1) && (backToKw eR (keywordEach [] X.env)).all (λ x=>x.1.isSome)
   && decide ((e :: es).length+([]:List Keyword).length+(if ([]:List Keyword).isEmpty then 0 else 1) < 30))=true:=by rfl)
  (kX:(apos.endLine == eR.line)=true:=by rfl) (hs:starEach (e :: es) X.env=(false,eval e X.env) :: starEach es X.env:=by rfl) (oi:(backTo eR (starEach es X.env)).any (·.1)=false:=by rfl) :
  PE X (.Call (.Attribute o name apos) (e :: es) [] eR) (Lk K T r to t):=by subst hK;exact Im pa slot Ga hm ho ha kY Aj kX hs oi
end L2
namespace HT
open PySem PyProof.Rows
section
variable {prog:Program}{w:World}{A:Around}{E:Value->Shared->Prop}{s:Shared}
theorem jz {t sl:Addr}{items:Array Value}{vl vu:Value}{lo hi:Option Int}{Q:Value->Shared->Prop}(ht:IsTup s.heap t items)(hs:s.heap.IsSliceOf sl vl vu .none)(pl:IsPart vl lo)(pu:IsPart vu hi)
  (h1:cP items.size 0 lo=0) (h2:cP items.size items.size hi=items.size) (h:Q (.ref t) s):wpAny (model prog w) A (getItem (.ref t) (.ref sl)) Q E s:=by
 obtain⟨os,Gg,KC,JB⟩:=id hs
 have MM:s.TypeIs (.ref sl) "slice":=⟨os,Gg,KC⟩
 unfold getItem
 try with_reducible refine wpAny_holding ?_
 first|refine wpAny_bind (wpAny_pure ?_)|skip
 refine wpAny_bind (wpAny_sequenceKey ht.typeIs (by decide) ?_)
 refine wpAny_bind (wpAny_callSpecial?_slot (name:=Str.ofString "__getitem__") ht.typeIs PyProof.Rows.slot_tuple_getitem
  (wpAny_call_entry PyProof.Rows.slot_tuple_getitem ht.typeIs entry_tuple_getitem ?_ (args_tuple_getitem _ _)))
 show wpAny _ _ (Builtin.Tuple.tupleItemsOf (.ref t) >>= _) _ _ s
 refine wpAny_bind (tupleItemsOf_ ht ?_)
 refine wpAny_bind (wpAny_typeOf MM ?_)
 rw[if_pos (by decide)]
 refine wpAny_bind (gX hs pl pu ?_)
 have Mf:((((cP items.size 0 lo:Nat):Int) == 0 && (1:Int) == 1 && (cP items.size items.size hi - cP items.size 0 lo) == items.size)=true):=by
  rw[h1,h2];simp
 show wpAny _ _ (if (((cP items.size 0 lo:Nat):Int) == 0 && (1:Int) == 1 && (cP items.size items.size hi - cP items.size 0 lo) == items.size)=true then _ else _) _ _ s
 rw[if_pos Mf]
 unfold Builtin.Tuple.tupleIsExact
 refine wpAny_bind (wpAny_bind (wpAny_typeOf ht.typeIs (wpAny_pure ?_)))
 rw[if_pos (by decide)]
 first
  | exact wpAny_bind (wpAny_rule (wpAny_pure ⟨_,rfl,wpAny_pure h⟩))
  | exact wpAny_bind (wpAny_rule (wpAny_bind (wpAny_pure (wpAny_pure ⟨_,rfl,wpAny_pure h⟩))))
end
end HT
namespace L2
open PySem PySem.Spec PyProof.Rows
def EA (K:PySem.W.Frag):R2:=λ x y H Q=>∃ a b xs ys,x=.ref a/\y=.ref b/\gF K H a xs/\gF K H b ys/\ys≠[]/\xs.length+ys.length<=sizeLine/\
 (xs=[]->Q (.ref b) H)/\(xs≠[]->∀ p,H p=none->Q (.ref p) (upd H p (.tup (xs++ys))))
theorem zh {X:Cx}:e_ X (binaryOp .Add) (EA X.K):=by
 intro pins s σ H x y v u Q I rx ry h
 obtain⟨a,b,xs,ys,rfl,rfl,ha,hb,hy,hz,q1,q2⟩:=h
 by_cases hx:xs=[]
 ·cases rx
  cases ry
  obtain⟨its,r1,p1,_⟩:=I.tuple ha
  obtain⟨cU,r2,p2,_⟩:=I.tuple hb
  obtain⟨⟨cls,dd,data,sl⟩,ho,hc,n,hd⟩:=id p1
  obtain⟨⟨Nr,KN,data2,Kj⟩,c9,JF,n2,hd2⟩:=id p2
  simp only at hc hd JF hd2
  subst hc hd JF hd2
  have he:its=[]:=r1.mX.mpr hx
  exact concat_meets ⟨_,ho,rfl⟩ ⟨_,c9,rfl⟩ noFill_tuple_add seq_tuple_add PySem.F.slot_tuple_add PySem.F.entry_tuple_add (PySem.F.args_tuple_add_2 _ _)
   (tuple_addW0 a b its.toArray cU.toArray n n2 dd KN sl Kj (by simp[he])) ⟨ho,c9,⟨.ref b,H,I,rfl,q1 hx⟩⟩
 ·exact BX pins s σ H (.ref a) (.ref b) v u Q I rx ry ⟨a,b,xs,ys,rfl,rfl,ha,hb,hx,hz,λ z=>absurd z hy,λ _=>q2 hx⟩
def H0 (K:PySem.W.Frag):V->Option Int->Option Int->Hp->VK->Prop:=λ x lo hi H Q=>∃ a xs,x=.ref a/\gF K H a xs/\
 ((HT.cP xs.length 0 lo=0/\HT.cP xs.length xs.length hi=xs.length)->Q (.ref a) H)/\(¬ (HT.cP xs.length 0 lo=0/\HT.cP xs.length xs.length hi=xs.length)->∀ p,H p=none->Q (.ref p) (upd H p (.tup (oH xs lo hi))))
theorem Bm {X:Cx}:Hy X (H0 X.K):=by
 intro pins s σ H x v vl vu lo hi sl Q I rx hs pl pu h
 obtain⟨a,xs,rfl,hx,q1,q2⟩:=h
 by_cases hw:HT.cP xs.length 0 lo=0/\HT.cP xs.length xs.length hi=xs.length
 ·cases rx
  obtain⟨its,r,ht,hz⟩:=I.tuple hx
  have hlen:its.toArray.size=xs.length:=by rw[List.size_toArray];exact r.length.symm
  refine⟨"tuple",_,PyProof.Rows.slot_tuple_getitem.lookup,ht.typeIs,?_⟩
  exact HT.jz ht hs pl pu (by rw[hlen];exact hw.1) (by rw[hlen];exact hw.2) ⟨.ref a,H,I,rfl,q1 hw⟩
 ·exact Em pins s σ H (.ref a) v vl vu lo hi sl Q I rx hs pl pu ⟨a,xs,rfl,hx,hw,q2 hw⟩
end L2
namespace L2
open PySem PySem.Spec PyProof.Rows
end L2
namespace L2
open PySem PySem.Spec PySem.W PyProof.Rows
section
variable {prog:Program}{w:World}{A:Around}{E:Value->Shared->Prop}{s:Shared}{K:PySem.W.Frag}{x C:Addr}{ox:Obj}{od:Option Obj}{name:Str}
end
end L2
namespace L2
open PySem PySem.Spec PySem.W PyProof.Rows
section
variable {K:PySem.W.Frag}{C:Addr}{nm:Str}{bm:List Value}{P0:Option Value}
end
def OX (C e:Addr):HO:=.ext λ h=>∃ ox:Obj,h.get? e=some ox/\ox.cls=.ref C/\notCls ox=true/\ox.dict=none
section
variable {X:Cx}{pins:List (Addr × Obj)}{σ:St}{H:Hp}{s:Shared}{h':Heap}{a:Addr}{o:HO}
end
end L2
namespace L2
open PySem PySem.Spec PyProof.Rows
theorem kB:∀ {ss:List Str}{us:List Value},Vals (ss.map V.str) us->∃ l:List (Str × Tok),strValues l=us/\l.map (·.1)=ss
 | [],_,.nil=>⟨[],rfl,rfl⟩
 | x :: r,_,.cons ⟨t,e⟩ h=>by
  obtain⟨l,h1,h2⟩:=kB h
  subst e
  exact⟨(x,t) :: l,by rw[<-h1];rfl,by rw[List.map_cons,h2]⟩
theorem fA:∀ {ss:List Str}{us:List Value},StrsAre us ss->Vals (ss.map V.str) us
 | _,_,.nil=>.nil
 | _,_,.cons x t h=>.cons ⟨t,rfl⟩ (fA h)
end L2
namespace L2
open PySem PySem.Spec PyProof.Rows
end L2
namespace Mm
open PySem L2
inductive AV where
 | aY|bl (b:Bool)|int (i:Int)|str (x:Str)|tup (xs:List AV)|ref (i:Nat)|sq (xs:List AV)
inductive AO where
 | lst (xs:List AV)|dK (kvs:List (Key × AV))|dT (kvs:List (List Key × AV))|ins (C:Nat) (fs:List (Str × AV))|exc (C:Nat)|tab (i:Nat) (q:Str)
abbrev S:=List AO
abbrev En:=List (Option AV)
structure AX where
 cls:Nat
 fs:List (Str × AV)
inductive R (α:Type) where
 | ok (a:α) (s:S)|ex (c:AX) (s:S)|bad
def R.bind {α β:Type}:R α->(α->S->R β)->R β
 | .ok a s,f=>f a s
 | .ex c s,_=>.ex c s
 | .bad,_=>.bad
inductive RS where
 | nx (e:En) (s:S)|rt (v:AV) (s:S)|bk (e:En) (s:S)|ct (e:En) (s:S)|ex (c:AX) (s:S)|bad
@[simp] theorem dz {α β:Type}(a:α) (s:S) (f:α->S->R β):(R.ok a s).bind f=f a s:=rfl
@[simp] theorem lh {α β:Type}(f:α->S->R β):(R.bad:R α).bind f=.bad:=rfl
structure Tx where
 K:PySem.W.Frag
 cl:Nat->Addr
def DO (K:PySem.W.Frag)(H:Hp)(a:Addr)(xs:List V):Prop:=
 (∃ o,H a=some (.qc o (.lst xs)))∨∃ (o:Obj) (its:Array Value) (n:Nat),K.lookup a=some o/\o.cls=.type "list"/\o.dict=none/\o.data=.seq its n/\its.size<=sizeLine/\Vals xs its.toList
theorem DO.xp {K:PySem.W.Frag}{H:Hp}{a:Addr}{xs:List V}(h:DO K H a xs):fJ K H a xs:=by
 rcases h with h|h
 ·exact .inl (.inr h)
 ·exact .inr h
mutual
def VR (T:Tx)(ρ:List Addr)(H:Hp):AV->V->Prop
 | .aY,x=>x=.aY
 | .bl b,x=>x=.bl b
 | .int i,x=>x=.int i
 | .str z,x=>x=.str z
 | .tup xs,x=>∃ a vs,x=.ref a/\gF T.K H a vs/\aR T ρ H xs vs
 | .ref i,x=>∃ a,ρ[i]? = some a/\x=.ref a
 | .sq xs,x=>∃ a vs,x=.ref a/\DO T.K H a vs/\aR T ρ H xs vs
def aR (T:Tx)(ρ:List Addr)(H:Hp):List AV->List V->Prop
 | [],vs=>vs=[]
 | v :: r,vs=>∃ x ys,vs=x :: ys/\VR T ρ H v x/\aR T ρ H r ys
end
structure Gr (ρ:List Addr)(H:Hp)(ρ':List Addr)(H':Hp):Prop where
 pre:ρ <+: ρ'
 ju:∀ b xs,H b=some (.tup xs)->H' b=some (.tup xs)
 iz:∀ b o u,H b=some (.qc o u)->H' b=some (.qc o u)
structure Up (ρ:List Addr)(H:Hp)(ρ':List Addr)(H':Hp):Prop extends Gr ρ H ρ' H' where
 fr:∀ b o,H b=some o->b∉ρ->H' b=some o/\b∉ρ'
 live:∀ b,H' b=none->H b=none
theorem Up.refl {ρ:List Addr}{H:Hp}:Up ρ H ρ H:=⟨⟨List.prefix_rfl,λ _ _ h=>h,λ _ _ _ h=>h⟩,λ _ _ h n=>⟨h,n⟩,λ _ h=>h⟩
theorem Up.trans {ρ ρ1 ρ2:List Addr}{H H1 H2:Hp}(a:Up ρ H ρ1 H1)(b:Up ρ1 H1 ρ2 H2):Up ρ H ρ2 H2:=
 ⟨⟨a.pre.trans b.pre,λ c xs h=>b.ju c xs (a.ju c xs h),λ c o u h=>b.iz c o u (a.iz c o u h)⟩,λ c o h n=>let ⟨h1,n1⟩:=a.fr c o h n;b.fr c o h1 n1,λ c h=>a.live c (b.live c h)⟩
theorem Up.add {ρ ρ1:List Addr}{H H1:Hp}{p:Addr}(a:Up ρ H ρ1 H1)(h:H p=none):Up ρ H (ρ1++[p]) H1:=
 ⟨⟨a.pre.trans (List.prefix_append _ _),a.ju,a.iz⟩,λ b o e n=>⟨(a.fr b o e n).1,λ z=>by
  rcases List.mem_append.mp z with z|z
  ·exact(a.fr b o e n).2 z
  ·rw[List.mem_singleton.mp z,h]at e;cases e⟩,a.live⟩
theorem vN {α:Type}{ρ ρ':List α}(h:ρ <+: ρ'){i:Nat}{a:α}(e:ρ[i]? = some a):ρ'[i]? = some a:=by
 obtain⟨t,rfl⟩:=h
 rw[List.getElem?_append_left]
 ·exact e
 ·exact(List.getElem?_eq_some_iff.mp e).1
theorem Gr.HU {K:PySem.W.Frag}{ρ ρ':List Addr}{H H':Hp}(u:Gr ρ H ρ' H'){a:Addr}{vs:List V}(h:gF K H a vs):gF K H' a vs:=by
 rcases h with(h|⟨o,h⟩)|h
 ·exact .inl (.inl (u.ju _ _ h))
 ·exact .inl (.inr ⟨o,u.iz _ _ _ h⟩)
 ·exact .inr h
theorem Gr.Lr {K:PySem.W.Frag}{ρ ρ':List Addr}{H H':Hp}(u:Gr ρ H ρ' H'){a:Addr}{vs:List V}(h:DO K H a vs):DO K H' a vs:=by
 rcases h with⟨o,h⟩|h
 ·exact .inl ⟨o,u.iz _ _ _ h⟩
 ·exact .inr h
section
variable {T:Tx}{ρ ρ':List Addr}{H H':Hp}
mutual
theorem VR.gr (u:Gr ρ H ρ' H'):∀ {v:AV}{x:V},VR T ρ H v x->VR T ρ' H' v x
 | .aY,_,h=>h
 | .bl _,_,h=>h
 | .int _,_,h=>h
 | .str _,_,h=>h
 | .ref _,_,h=>by
  unfold VR at *
  obtain⟨a,h,e⟩:=h
  exact⟨a,vN u.pre h,e⟩
 | .tup _,_,h=>by
  unfold VR at *
  obtain⟨a,vs,e,h1,h2⟩:=h
  exact⟨a,vs,e,u.HU h1,aR.gr u h2⟩
 | .sq _,_,h=>by
  unfold VR at *
  obtain⟨a,vs,e,h1,h2⟩:=h
  exact⟨a,vs,e,u.Lr h1,aR.gr u h2⟩
theorem aR.gr (u:Gr ρ H ρ' H'):∀ {l:List AV}{xs:List V},aR T ρ H l xs->aR T ρ' H' l xs
 | [],_,h=>h
 | _ :: _,_,h=>by
  unfold aR at *
  obtain⟨x,ys,e,h1,h2⟩:=h
  exact⟨x,ys,e,VR.gr u h1,aR.gr u h2⟩
end
theorem VR.up (u:Up ρ H ρ' H'){v:AV}{x:V}(h:VR T ρ H v x):VR T ρ' H' v x:=h.gr u.toGr
theorem aR.up (u:Up ρ H ρ' H'){v:List AV}{x:List V}(h:aR T ρ H v x):aR T ρ' H' v x:=h.gr u.toGr
theorem aR.length:∀ {l:List AV}{xs:List V},aR T ρ H l xs->l.length=xs.length
 | [],_,h=>by unfold aR at h;subst h;rfl
 | _ :: _,_,h=>by
  unfold aR at h
  obtain⟨x,ys,rfl,_,h2⟩:=h
  simp[aR.length h2]
theorem aR.nil:aR T ρ H [] []:=by unfold aR;rfl
theorem aR.cons {v:AV}{x:V}{l:List AV}{xs:List V}(h:VR T ρ H v x)(k:aR T ρ H l xs):aR T ρ H (v :: l) (x :: xs):=by
 unfold aR
 exact⟨x,xs,rfl,h,k⟩
theorem aR.nil_inv {xs:List V}(h:aR T ρ H [] xs):xs=[]:=by unfold aR at h;exact h
theorem aR.cons_inv {v:AV}{l:List AV}{xs:List V}(h:aR T ρ H (v :: l) xs):∃ x ys,xs=x :: ys/\VR T ρ H v x/\aR T ρ H l ys:=by unfold aR at h;exact h
theorem aR.get:∀ {l:List AV}{xs:List V}{i:Nat}{v:AV},aR T ρ H l xs->l[i]? = some v->∃ x,xs[i]? = some x/\VR T ρ H v x
 | [],_,_,_,_,e=>by simp at e
 | _ :: _,_,0,_,h,e=>by
  obtain⟨x,ys,rfl,h1,_⟩:=h.cons_inv
  simp at e;subst e
  exact⟨x,rfl,h1⟩
 | _ :: _,_,i+1,_,h,e=>by
  obtain⟨x,ys,rfl,_,h2⟩:=h.cons_inv
  exact aR.get (i:=i) h2 (by simpa using e)
theorem aR.append:∀ {l q:List AV}{xs ys:List V},aR T ρ H l xs->aR T ρ H q ys->aR T ρ H (l++q) (xs++ys)
 | [],_,_,_,h,k=>by cases h.nil_inv;exact k
 | _ :: _,_,_,_,h,k=>by
  obtain⟨x,zs,rfl,h1,h2⟩:=h.cons_inv
  exact .cons h1 (aR.append h2 k)
theorem aR.one {v:AV}{x:V}(h:VR T ρ H v x):aR T ρ H [v] [x]:=.cons h .nil
theorem aR.set:∀ {l:List AV}{xs:List V}{v:AV}{x:V}(i:Nat),aR T ρ H l xs->VR T ρ H v x->aR T ρ H (l.set i v) (xs.set i x)
 | [],_,_,_,_,h,_=>by cases h.nil_inv;exact .nil
 | _ :: _,_,_,_,0,h,k=>by
  obtain⟨x,zs,rfl,h1,h2⟩:=h.cons_inv
  exact .cons k h2
 | _ :: _,_,_,_,i+1,h,k=>by
  obtain⟨x,zs,rfl,h1,h2⟩:=h.cons_inv
  exact .cons h1 (aR.set i h2 k)
theorem aR.drop:∀ {l:List AV}{xs:List V}(n:Nat),aR T ρ H l xs->aR T ρ H (l.drop n) (xs.drop n)
 | _,_,0,h=>h
 | [],_,_+1,h=>by cases h.nil_inv;exact .nil
 | _ :: _,_,n+1,h=>by
  obtain⟨x,zs,rfl,h1,h2⟩:=h.cons_inv
  exact aR.drop n h2
theorem aR.take:∀ {l:List AV}{xs:List V}(n:Nat),aR T ρ H l xs->aR T ρ H (l.take n) (xs.take n)
 | _,_,0,h=>.nil
 | [],_,_+1,h=>by cases h.nil_inv;exact .nil
 | _ :: _,_,n+1,h=>by
  obtain⟨x,zs,rfl,h1,h2⟩:=h.cons_inv
  exact .cons h1 (aR.take n h2)
theorem aR.reverse:∀ {l:List AV}{xs:List V},aR T ρ H l xs->aR T ρ H l.reverse xs.reverse
 | [],_,h=>by cases h.nil_inv;exact .nil
 | _ :: _,_,h=>by
  obtain⟨x,zs,rfl,h1,h2⟩:=h.cons_inv
  rw[List.reverse_cons,List.reverse_cons]
  exact(aR.reverse h2).append (.one h1)
theorem aR.map {α:Type}{f:α->AV}{g:α->V}(h:∀ a,VR T ρ H (f a) (g a)):∀ (l:List α),aR T ρ H (l.map f) (l.map g)
 | []=>.nil
 | a :: r=>.cons (h a) (aR.map h r)
theorem aR.wZ:∀ {ns:List Bool}{xs:List V},aR T ρ H (ns.map AV.bl) xs->xs=ns.map V.bl
 | [],_,h=>h.nil_inv
 | _ :: _,_,h=>by
  obtain⟨x,zs,rfl,h1,h2⟩:=h.cons_inv
  unfold VR at h1
  rw[h1,aR.wZ h2];rfl
theorem aR.sm:∀ {ns:List Str}{xs:List V},aR T ρ H (ns.map AV.str) xs->xs=ns.map V.str
 | [],_,h=>h.nil_inv
 | _ :: _,_,h=>by
  obtain⟨x,zs,rfl,h1,h2⟩:=h.cons_inv
  unfold VR at h1
  rw[h1,aR.sm h2];rfl
theorem cO {i:Int}:VR T ρ H (.int i) (.int i):=by unfold VR;rfl
theorem dM {i:Bool}:VR T ρ H (.bl i) (.bl i):=by unfold VR;rfl
theorem hJ {i:Str}:VR T ρ H (.str i) (.str i):=by unfold VR;rfl
theorem ux:VR T ρ H .aY .aY:=by unfold VR;rfl
theorem ni {i:Nat}{a:Addr}(h:ρ[i]? = some a):VR T ρ H (.ref i) (.ref a):=by unfold VR;exact⟨a,h,rfl⟩
theorem jK {xs:List AV}{a:Addr}{vs:List V}(h:gF T.K H a vs)(k:aR T ρ H xs vs):VR T ρ H (.tup xs) (.ref a):=by unfold VR;exact⟨a,vs,rfl,h,k⟩
theorem VR.c6 {xs:List AV}{x:V}(h:VR T ρ H (.tup xs) x):∃ a vs,x=.ref a/\gF T.K H a vs/\aR T ρ H xs vs:=by unfold VR at h;exact h
theorem VR.jo {i:Nat}{x:V}(h:VR T ρ H (.ref i) x):∃ a,ρ[i]? = some a/\x=.ref a:=by unfold VR at h;exact h
theorem VR.f6 {xs:List AV}{x:V}(h:VR T ρ H (.sq xs) x):∃ a vs,x=.ref a/\DO T.K H a vs/\aR T ρ H xs vs:=by unfold VR at h;exact h
theorem VR.int_inv {i:Int}{x:V}(h:VR T ρ H (.int i) x):x=.int i:=by unfold VR at h;exact h
theorem VR.fH {i:Bool}{x:V}(h:VR T ρ H (.bl i) x):x=.bl i:=by unfold VR at h;exact h
theorem VR.str_inv {i:Str}{x:V}(h:VR T ρ H (.str i) x):x=.str i:=by unfold VR at h;exact h
theorem VR.jr {x:V}(h:VR T ρ H .aY x):x=.aY:=by unfold VR at h;exact h
def J' (H:Hp)(q:Str)(ps:Array Value):Prop:=TriplesOk ps.toList/\∀ pos cv,codeAmong pos ps.toList=some cv->∃ c oc u vs t,cv=.ref c/\H c=some (.qc oc u)/\oc.data=.fields vs/\vs[1]? = some (.str q t)
def OR (T:Tx)(ρ:List Addr)(H:Hp):AO->Addr->Prop
 | .lst xs,a=>∃ vs,H a=some (.lst vs)/\aR T ρ H xs vs
 | .dK kvs,a=>∃ ks:List (Key × V),H a=some (.dK ks)/\kvs.map (·.1)=ks.map (·.1)/\aR T ρ H (kvs.map (·.2)) (ks.map (·.2))
 | .dT kvs,a=>∃ ks:List (List Key × V),H a=some (.dT ks)/\kvs.map (·.1)=ks.map (·.1)/\aR T ρ H (kvs.map (·.2)) (ks.map (·.2))
 | .ins C fs,a=>∃ (dx:Addr) (ks:List (Str × V)),H a=some (.ins (T.cl C) dx ks)/\fs.map (·.1)=ks.map (·.1)/\aR T ρ H (fs.map (·.2)) (ks.map (·.2))
 | .exc C,a=>H a=some (OX (T.cl C) a)
 | .tab i q,a=>a=T.cl i/\∃ ps,H a=some (.Bb ps)/\J' H q ps
theorem OR.ex {o:AO}{a:Addr}(h:OR T ρ H o a):∃ u,H a=some u:=by
 cases o with
 | lst xs=>obtain⟨_,h,_⟩:=h;exact⟨_,h⟩
 | dK xs=>obtain⟨_,h,_⟩:=h;exact⟨_,h⟩
 | dT xs=>obtain⟨_,h,_⟩:=h;exact⟨_,h⟩
 | ins C xs=>obtain⟨_,_,h,_⟩:=h;exact⟨_,h⟩
 | exc C=>exact⟨_,h⟩
 | tab i q=>obtain⟨_,_,h,_⟩:=h;exact⟨_,h⟩
theorem OR.up {o:AO}{a:Addr}(u:Gr ρ H ρ' H')(e:H' a=H a)(h:OR T ρ H o a):OR T ρ' H' o a:=by
 cases o with
 | lst xs=>obtain⟨vs,h,k⟩:=h;exact⟨vs,e.trans h,k.gr u⟩
 | dK xs=>obtain⟨vs,h,q,k⟩:=h;exact⟨vs,e.trans h,q,k.gr u⟩
 | dT xs=>obtain⟨vs,h,q,k⟩:=h;exact⟨vs,e.trans h,q,k.gr u⟩
 | ins C xs=>obtain⟨dx,vs,h,q,k⟩:=h;exact⟨dx,vs,e.trans h,q,k.gr u⟩
 | exc C=>exact e.trans h
 | tab i q=>
  obtain⟨h1,ps,h2,h3,h4⟩:=h
  exact⟨h1,ps,e.trans h2,h3,λ pos cv z=>let ⟨c,oc,w,vs,t,k1,k2,k3⟩:=h4 pos cv z;⟨c,oc,w,vs,t,k1,u.iz _ _ _ k2,k3⟩⟩
end
structure SR (T:Tx)(ρ:List Addr)(s:S)(H:Hp):Prop where
 nd:ρ.Nodup
 len:ρ.length=s.length
 obj:∀ (i:Nat) (o:AO),s[i]? = some o->∃ a,ρ[i]? = some a/\OR T ρ H o a
section
variable {T:Tx}{ρ ρ':List Addr}{s:S}{H H':Hp}
theorem SR.in (h:SR T ρ s H){a:Addr}(ha:a∈ρ):∃ u,H a=some u:=by
 obtain⟨i,hi,e⟩:=List.getElem_of_mem ha
 have Hs:i < s.length:=by rw[<-h.len];exact hi
 obtain⟨b,e2,q⟩:=h.obj i s[i] (List.getElem?_eq_getElem Hs)
 rw[List.getElem?_eq_getElem hi]at e2
 cases e2
 rw[e]at q
 exact q.ex
theorem SR.out (h:SR T ρ s H){a:Addr}(ha:H a=none):a∉ρ:=λ z=>by
 obtain⟨u,e⟩:=h.in z
 rw[ha]at e;cases e
theorem SR.dX (h:SR T ρ s H){p:Addr}{o:HO}(hp:H p=none):Up ρ H ρ (upd H p o):=
 ⟨⟨List.prefix_rfl,λ b xs e=>by rw[aD (bq e hp)];exact e,λ b o u e=>by rw[aD (bq e hp)];exact e⟩,λ b u e n=>⟨by rw[aD (bq e hp)];exact e,n⟩,λ b e=>by
  by_cases hb:b=p
  ·rw[hb];exact hp
  ·rw[aD hb]at e;exact e⟩
theorem SR.up (h:SR T ρ s H)(u:Gr ρ H ρ H')(k:∀ a∈ρ,H' a=H a):SR T ρ s H':=
 ⟨h.nd,h.len,λ i o e=>by
  obtain⟨a,e1,q⟩:=h.obj i o e
  exact⟨a,e1,q.up u (k a (List.mem_of_getElem? e1))⟩⟩
theorem SR.new (h:SR T ρ s H){p:Addr}{o:HO}(hp:H p=none):SR T ρ s (upd H p o):=
 h.up (h.dX hp).toGr λ a ha=>aD λ e=>h.out hp (e ▸ ha)
theorem SR.add (h:SR T ρ s H){p:Addr}{o:AO}(hp:p∉ρ)(k:OR T (ρ++[p]) H o p):SR T (ρ++[p]) (s++[o]) H:=by
 refine⟨List.nodup_append.mpr ⟨h.nd,by simp,λ a ha b hb e=>hp (by rw[List.mem_singleton.mp hb]at e;exact e ▸ ha)⟩,by simp[h.len],λ i q e=>?_⟩
 by_cases hi:i < s.length
 ·rw[List.getElem?_append_left hi]at e
  obtain⟨a,e1,q1⟩:=h.obj i q e
  refine⟨a,by rw[List.getElem?_append_left (by rw[h.len];exact hi)];exact e1,?_⟩
  exact q1.up ⟨List.prefix_append _ _,λ _ _ e=>e,λ _ _ _ e=>e⟩ rfl
 ·rw[List.getElem?_append_right (by omega)]at e
  have hz:i - s.length=0:=by
   have:=(List.getElem?_eq_some_iff.mp e).1
   simp at this;omega
  rw[hz]at e
  cases e
  exact⟨p,by rw[List.getElem?_append_right (by rw[h.len];omega),h.len,hz];rfl,k⟩
end
structure Rl (α β:Type) where
 r:Hp->List Addr->Hp->α->β->Prop
 C4:∀ {H H1:Hp}{ρ:List Addr}{H':Hp}{v:α}{x:β},(∀ b,H1 b=none->H b=none)->r H1 ρ H' v x->r H ρ H' v x
abbrev fU:=AX->List Addr->S->Hp->Prop
def Out {α β:Type}(T:Tx)(XE:fU)(rl:Rl α β)(ρ:List Addr)(H:Hp):R α->(β->Hp->Prop)->Prop
 | .ok v s,Q=>∀ ρ' H' x,Up ρ H ρ' H'->SR T ρ' s H'->rl.r H ρ' H' v x->Q x H'
 | .ex c s,_=>∀ ρ' H',Up ρ H ρ' H'->SR T ρ' s H'->XE c ρ' s H'
 | .bad,_=>False
theorem Out.up {α β:Type}{T:Tx}{XE:fU}{rl:Rl α β}{ρ ρ':List Addr}{H H':Hp}{r:R α}{Q:β->Hp->Prop}(u:Up ρ H ρ' H')(h:Out T XE rl ρ H r Q):Out T XE rl ρ' H' r Q:=by
 cases r with
 | ok v s=>exact λ ρ2 H2 x u2 sr vr=>h ρ2 H2 x (u.trans u2) sr (rl.C4 u.live vr)
 | ex c s=>exact λ ρ2 H2 u2 sr=>h ρ2 H2 (u.trans u2) sr
 | bad=>exact h
structure ER (T:Tx)(ρ:List Addr)(H:Hp)(env:En)(σ:St):Prop where
 len:env.length=σ.length
 get:∀ (i:Nat) (v:AV),env[i]? = some (some v)->∃ x,σ[i]? = some (some x)/\VR T ρ H v x
theorem ER.up {T:Tx}{ρ ρ':List Addr}{H H':Hp}{env:En}{σ:St}(u:Up ρ H ρ' H')(h:ER T ρ H env σ):ER T ρ' H' env σ:=
 ⟨h.len,λ i v e=>let ⟨x,e1,q⟩:=h.get i v e;⟨x,e1,q.up u⟩⟩
theorem ER.set {T:Tx}{ρ:List Addr}{H:Hp}{env:En}{σ:St}(h:ER T ρ H env σ){i:Nat}{v:AV}{x:V}(k:VR T ρ H v x):ER T ρ H (env.set i (some v)) (σ.set i (some x)):=by
 refine⟨by simp[h.len],λ j w e=>?_⟩
 by_cases tI:i=j
 ·subst tI
  have hl:i < env.length:=by
   have:=(List.getElem?_eq_some_iff.mp e).1
   simpa using this
  rw[List.getElem?_set_self hl]at e
  cases e
  exact⟨x,by rw[List.getElem?_set_self (by rw[<-h.len];exact hl)],k⟩
 ·rw[List.getElem?_set_ne tI]at e ⊢
  exact h.get j w e
def tG {α β:Type}(T:Tx)(XE:fU)(rl:Rl α β)(m:En->S->R α):St->Hp->(β->Hp->Prop)->Prop:=λ σ H Q=>
 ∃ ρ env s,SR T ρ s H/\ER T ρ H env σ/\Out T XE rl ρ H (m env s) Q
theorem step {α β α' β':Type}{T:Tx}{XE:fU}{rl:Rl α β}{NO:Rl α' β'}{ρ:List Addr}{env:En}{s:S}{σ:St}{H:Hp}{m:En->S->R α}{k:α->S->R α'}{Q:β'->Hp->Prop}{F:β->Hp->Prop}
  (hs:SR T ρ s H) (he:ER T ρ H env σ) (ho:Out T XE NO ρ H ((m env s).bind k) Q)
  (hk:∀ v s1 ρ1 H1 x,m env s=.ok v s1->Up ρ H ρ1 H1->SR T ρ1 s1 H1->ER T ρ1 H1 env σ->rl.r H ρ1 H1 v x->Out T XE NO ρ1 H1 (k v s1) Q->F x H1):tG T XE rl m σ H F:=by
 refine⟨ρ,env,s,hs,he,?_⟩
 cases e:m env s with
 | ok v s1=>
  rw[e]at ho
  exact λ ρ1 H1 x u sr vr=>hk v s1 ρ1 H1 x e u sr (he.up u) vr (Out.up u ho)
 | ex c s1=>rw[e]at ho;exact ho
 | bad=>rw[e]at ho;exact ho
theorem Out.here {α β:Type}{T:Tx}{XE:fU}{rl:Rl α β}{ρ:List Addr}{H:Hp}{v:α}{s:S}{Q:β->Hp->Prop}{x:β}(h:Out T XE rl ρ H (.ok v s) Q) (sr:SR T ρ s H)(r:rl.r H ρ H v x):Q x H:=h ρ H x .refl sr r
theorem PE.imp {X:Cx}{e:Expr}{t t':TE}(h:PE X e t)(k:∀ σ H Q,t' σ H Q->t σ H Q):PE X e t':=λ pins s σ H Q I hq=>h pins s σ H Q I (k σ H Q hq)
theorem PT.imp {X:Cx}{e:Expr}{t t':TT}(h:PT X e t)(k:∀ σ H Q,t' σ H Q->t σ H Q):PT X e t':=λ pins s σ H Q I hq=>h pins s σ H Q I (k σ H Q hq)
theorem PW.imp {X:Cx}{e:Expr}{t t':TT}(h:PW X e t)(k:∀ σ H Q,t' σ H Q->t σ H Q):PW X e t':=λ wh pins s σ H Q I hq=>h wh pins s σ H Q I (k σ H Q hq)
theorem PA.imp {X:Cx}{e:List Expr}{t t':TA}(h:PA X e t)(k:∀ σ H Q,t' σ H Q->t σ H Q):PA X e t':=λ pos pins s σ H Q I hq=>h pos pins s σ H Q I (k σ H Q hq)
theorem PS.imp {X:Cx}{e:Stmt}{t t':TS}(h:PS X e t)(k:∀ D σ H,t' D σ H->t D σ H):PS X e t':=λ pins s σ H Q I hq=>h pins s σ H Q I (k Q σ H hq)
theorem ke.imp {X:Cx}{e:List Stmt}{t t':TS}(h:ke X e t)(k:∀ D σ H,t' D σ H->t D σ H):ke X e t':=λ pins s σ H Q I hq=>h pins s σ H Q I (k Q σ H hq)
theorem PI.imp {X:Cx}{tg e:Expr}{t t':TI}(h:PI X tg e t)(k:∀ σ H R,t' σ H R->t σ H R):PI X tg e t':=λ pins s σ H Q I hq=>h pins s σ H Q I (k σ H Q hq)
theorem PG.imp {X:Cx}{e:Expr}{t t':TG}(h:PG X e t)(k:∀ v σ H Q,t' v σ H Q->t v σ H Q):PG X e t':=λ pins s σ H v u Q I r hq=>h pins s σ H v u Q I r (k v σ H Q hq)
theorem xf.imp {X:Cx}{e:List Expr}{t t':C7}(h:xf X e t)(k:∀ v σ H Q,t' v σ H Q->t v σ H Q):xf X e t':=λ pins s σ H v u Q I r hq=>h pins s σ H v u Q I r (k v σ H Q hq)
end Mm
namespace Mm
open PySem L2
abbrev Ev:=En->S->R AV
abbrev dR:=En->S->R (List AV)
abbrev Eb:=En->S->R Bool
structure rZ (i:Int):Prop where
 f:bw 60000000 i
structure C_ (i:Int):Prop where
 f:bw 9000 i
noncomputable instance {i:Int}:Decidable (rZ i):=Classical.propDecidable _
noncomputable instance {i:Int}:Decidable (C_ i):=Classical.propDecidable _
def rV (T:Tx):Rl AV V:=⟨λ _ ρ H v x=>VR T ρ H v x,λ _ h=>h⟩
def rA (T:Tx):Rl (List AV) (List V):=⟨λ _ ρ H v x=>aR T ρ H v x,λ _ h=>h⟩
def rB:Rl Bool Bool:=⟨λ _ _ _ b c=>b=c,λ _ h=>h⟩
def rL (T:Tx):Rl (List AV) V:=⟨λ vt ρ H xs x=>∃ a vs,x=.ref a/\vt a=none/\a∉ρ/\H a=some (.lst vs)/\aR T ρ H xs vs,λ k ⟨a,vs,e,h,r⟩=>⟨a,vs,e,k a h,r⟩⟩
def rQ (T:Tx):Rl (List AV) V:=⟨λ _ ρ H xs x=>∃ a vs,x=.ref a/\(fJ T.K H a vs∨gF T.K H a vs)/\aR T ρ H xs vs,λ _ h=>h⟩
theorem Out.aW {T:Tx}{XE:fU}{ρ:List Addr}{H:Hp}{v:AV}{s:S}{Q:VK}{x:V}(h:Out T XE (rV T) ρ H (.ok v s) Q) (sr:SR T ρ s H)(r:VR T ρ H v x):Q x H:=h ρ H x .refl sr r
abbrev tE (T:Tx)(XE:fU)(m:Ev):TE:=tG T XE (rV T) m
abbrev tL (T:Tx)(XE:fU)(m:dR):TE:=tG T XE (rL T) m
abbrev tQ (T:Tx)(XE:fU)(m:dR):TE:=tG T XE (rQ T) m
abbrev tP (T:Tx)(XE:fU)(m:dR):TA:=tG T XE (rA T) m
abbrev jn (T:Tx)(XE:fU)(m:Eb):TT:=tG T XE rB m
section
variable {T:Tx}{XE:fU}{X:Cx}{pos:Pos}
def mv (i:Nat):Ev:=λ env s=>match env[i]? with
 | some (some v)=>.ok v s
 | _=>.bad
theorem LZ {i:Nat}{e:Expr}(h:PE X e (Eg i)):PE X e (tE T XE (mv i)):=PE.imp h λ σ H Q ⟨ρ,env,s,hs,he,ho⟩=>by
 unfold mv at ho
 split at ho
 ·rename_i v ev
  obtain⟨x,e1,q⟩:=he.get i v ev
  exact⟨x,e1,ho.aW hs q⟩
 ·exact ho.elim
def mc (v:AV):Ev:=λ _ s=>.ok v s
theorem FI {i:Int}{j:Nat}:PE X (.Constant (.int i) j pos) (tE T XE (mc (.int i))):=PE.imp EY λ σ H Q ⟨ρ,env,s,hs,he,ho⟩=>ho.aW hs cO
theorem I_ {i:Bool}{j:Nat}:PE X (.Constant (.bool i) j pos) (tE T XE (mc (.bl i))):=PE.imp Io λ σ H Q ⟨ρ,env,s,hs,he,ho⟩=>ho.aW hs dM
theorem FF {j:Nat}:PE X (.Constant .none j pos) (tE T XE (mc .aY)):=PE.imp EW λ σ H Q ⟨ρ,env,s,hs,he,ho⟩=>ho.aW hs ux
theorem FA {i:Str}{j:Nat}:PE X (.Constant (.str i) j pos) (tE T XE (mc (.str i))):=PE.imp ES λ σ H Q ⟨ρ,env,s,hs,he,ho⟩=>ho.aW hs hJ
theorem Cn {x:Str}{v:V}{u:Value}{a:AV}(hg:Gl X x)(hm:X.mg x=some u)(r:RelV v u)(hv:∀ ρ H,VR T ρ H a v)(hd:(x == ("__debug__":Str))=false:=by decide):PE X (.Name x pos) (tE T XE (mc a)):=
 PE.imp (BN hg hm r hd) λ σ H Q ⟨ρ,env,s,hs,he,ho⟩=>ho.aW hs (hv ρ H)
def lF (T:Tx)(XE:fU)(op:AV->AV->S->R AV):R2:=λ x y H Q=>∃ ρ v w s,SR T ρ s H/\VR T ρ H v x/\VR T ρ H w y/\Out T XE (rV T) ρ H (op v w s) Q
def LI (T:Tx)(XE:fU)(op:AV->S->R AV):V->Hp->VK->Prop:=λ x H Q=>∃ ρ v s,SR T ρ s H/\VR T ρ H v x/\Out T XE (rV T) ρ H (op v s) Q
def af (op:AV->AV->S->R AV)(a b:Ev):Ev:=λ env s=>(a env s).bind λ v s1=>(b env s1).bind λ w s2=>op v w s2
def cK (op:AV->S->R AV)(a:Ev):Ev:=λ env s=>(a env s).bind λ v s1=>op v s1
theorem t2 {op:AV->AV->S->R AV}{a b:Ev}{σ:St}{H:Hp}{Q:VK}(h:tE T XE (af op a b) σ H Q):HH (lF T XE op) (tE T XE a) (tE T XE b) σ H Q:=by
 obtain⟨ρ,env,s,hs,he,ho⟩:=h
 exact step hs he ho λ v s1 ρ1 H1 x _ u1 bo cS a6 aP=>step bo cS aP λ w s2 ρ2 H2 y _ u2 hV mJ j' c9=>⟨ρ2,v,w,s2,hV,VR.up u2 a6,j',c9⟩
theorem t1 {op:AV->S->R AV}{a:Ev}{σ:St}{H:Hp}{Q:VK}(h:tE T XE (cK op a) σ H Q):NL (LI T XE op) (tE T XE a) σ H Q:=by
 obtain⟨ρ,env,s,hs,he,ho⟩:=h
 exact step hs he ho λ v s1 ρ1 H1 x _ u1 bo cS a6 aP=>⟨ρ1,v,s1,bo,a6,aP⟩
theorem jU {o:Operator}{op:AV->AV->S->R AV}{a b:Expr}{m1 m2:Ev}(u7:e_ X (binaryOp o) (lF T XE op)) (ha:PE X a (tE T XE m1)) (hb:PE X b (tE T XE m2)):PE X (.BinOp a o b pos) (tE T XE (af op m1 m2)):=
 PE.imp (Ik u7 ha hb) λ _ _ _ h=>t2 h
theorem IU {o:UnaryOp}{op:AV->S->R AV}{a:Expr}{m1:Ev}(u7:J_ X (unaryOp o) (LI T XE op)) (ha:PE X a (tE T XE m1)):PE X (.UnaryOp o a pos) (tE T XE (cK op m1)):=
 PE.imp (Ii u7 ha) λ _ _ _ h=>t1 h
theorem jT {o:CmpOp}{op:AV->AV->S->R AV}{a b:Expr}{m1 m2:Ev}(u7:e_ X (compareOp o) (lF T XE op)) (ha:PE X a (tE T XE m1)) (hb:PE X b (tE T XE m2)) (hm:behindInMarks o b=false:=by rfl):PE X (.Compare a [o] [b] pos) (tE T XE (af op m1 m2)):=
 PE.imp (BR u7 ha hb hm) λ _ _ _ h=>t2 h
theorem IX {op:AV->AV->S->R AV}{a b:Expr}{m1 m2:Ev}(u7:Hz X (lF T XE op)) (ha:PE X a (tE T XE m1)) (hb:PE X b (tE T XE m2)) (hs:xc b:=by exact λ _ _=>rfl):PE X (.Subscript a b pos) (tE T XE (af op m1 m2)):=
 PE.imp (Il u7 ha hb hs) λ _ _ _ h=>t2 h
theorem Out.alloc {ρ:List Addr}{H:Hp}{s:S}{o:AO}{u:HO}{p:Addr}{Q:VK}(h:Out T XE (rV T) ρ H (.ok (.ref s.length) (s++[o])) Q) (sr:SR T ρ s H)(hp:H p=none)(k:OR T (ρ++[p]) (upd H p u) o p):Q (.ref p) (upd H p u):=by
 have s1:SR T (ρ++[p]) (s++[o]) (upd H p u):=(sr.new hp).add (sr.out hp) k
 exact h _ _ _ ((sr.dX hp).add hp) s1 (ni (T:=T) (H:=upd H p u) (by rw[List.getElem?_append_right (by rw[sr.len];exact Nat.le_refl _),sr.len,Nat.sub_self];rfl))
theorem Out.tup {ρ:List Addr}{H:Hp}{s:S}{xs:List AV}{vs:List V}{p:Addr}{Q:VK}(h:Out T XE (rV T) ρ H (.ok (.tup xs) s) Q) (sr:SR T ρ s H)(hp:H p=none)(k:aR T ρ H xs vs):Q (.ref p) (upd H p (.tup vs)):=
 h _ _ _ (sr.dX hp) (sr.new hp) (jK (gF.of aQ) (aR.up (sr.dX hp) k))
theorem Out.lst {ρ:List Addr}{H:Hp}{s:S}{xs:List AV}{vs:List V}{p:Addr}{Q:VK}(h:Out T XE (rL T) ρ H (.ok xs s) Q) (sr:SR T ρ s H)(hp:H p=none)(k:aR T ρ H xs vs):Q (.ref p) (upd H p (.lst vs)):=
 h _ _ _ (sr.dX hp) (sr.new hp) ⟨p,vs,rfl,hp,sr.out hp,aQ,aR.up (sr.dX hp) k⟩
theorem SR.dN {ρ:List Addr}{H:Hp}{s:S}(sr:SR T ρ s H){i:Nat}{xs:List AV}(e:s[i]? = some (.lst xs)) {x:V}(h:VR T ρ H (.ref i) x):∃ a vs,x=.ref a/\ρ[i]? = some a/\H a=some (.lst vs)/\aR T ρ H xs vs:=by
 obtain⟨a,e1,vs,h1,h2⟩:=sr.obj i _ e
 obtain⟨b,e2,rfl⟩:=h.jo
 rw[e1]at e2
 cases e2
 exact⟨a,vs,rfl,e1,h1,h2⟩
theorem SR.yf {ρ:List Addr}{H:Hp}{s:S}(sr:SR T ρ s H){i:Nat}{xs:List (Key × AV)}(e:s[i]? = some (.dK xs)) {x:V}(h:VR T ρ H (.ref i) x):∃ (a:Addr) (vs:List (Key × V)),x=.ref a/\ρ[i]? = some a/\H a=some (.dK vs)/\xs.map (·.1)=vs.map (·.1)/\aR T ρ H (xs.map (·.2)) (vs.map (·.2)):=by
 obtain⟨a,e1,vs,h1,h2⟩:=sr.obj i _ e
 obtain⟨b,e2,rfl⟩:=h.jo
 rw[e1]at e2
 cases e2
 exact⟨a,vs,rfl,e1,h1,h2⟩
theorem SR.yB {ρ:List Addr}{H:Hp}{s:S}(sr:SR T ρ s H){i:Nat}{a:Addr}(e:ρ[i]? = some a){u u0:HO}(h0:H a=some u0)(n1:∀ xs,u0≠.tup xs)(n2:∀ o v,u0≠.qc o v):Up ρ H ρ (upd H a u):=by
 refine⟨⟨List.prefix_rfl,λ b xs h=>?_,λ b o v h=>?_⟩,λ b o h n=>⟨?_,n⟩,λ b h=>?_⟩
 ·rw[aD (nR h h0 λ z=>n1 xs z.symm)];exact h
 ·rw[aD (nR h h0 λ z=>n2 o v z.symm)];exact h
 ·rw[aD λ z=>n (by rw[z];exact List.mem_of_getElem? e)];exact h
 ·by_cases hb:b=a
  ·subst hb;rw[aQ]at h;cases h
  ·rw[aD hb]at h;exact h
theorem SR.set {ρ:List Addr}{H:Hp}{s:S}(sr:SR T ρ s H){i:Nat}{a:Addr}(e:ρ[i]? = some a){u:HO}{o:AO}(up:Up ρ H ρ (upd H a u)) (k:OR T ρ (upd H a u) o a):SR T ρ (s.set i o) (upd H a u):=by
 refine⟨sr.nd,by simp[sr.len],λ j q ej=>?_⟩
 by_cases tI:i=j
 ·subst tI
  have hl:i < s.length:=by have:=(List.getElem?_eq_some_iff.mp ej).1;simpa using this
  rw[List.getElem?_set_self hl]at ej
  cases ej
  exact⟨a,e,k⟩
 ·rw[List.getElem?_set_ne tI]at ej
  obtain⟨b,e1,q1⟩:=sr.obj j q ej
  refine⟨b,e1,q1.up up.toGr (aD λ z=>tI ?_)⟩
  subst z
  have h1:=(List.getElem?_eq_some_iff.mp e)
  have h2:=(List.getElem?_eq_some_iff.mp e1)
  exact(List.getElem_inj sr.nd).mp (h1.2.trans h2.2.symm)
theorem Out.bK {α β:Type}{rl:Rl α β}{ρ:List Addr}{H:Hp}{c:Prop}{_:Decidable c}{r:R α}{Q:β->Hp->Prop}(h:Out T XE rl ρ H (if c then r else .bad) Q):c/\Out T XE rl ρ H r Q:=by
 by_cases hc:c
 ·rw[if_pos hc]at h;exact⟨hc,h⟩
 ·rw[if_neg hc]at h;exact h.elim
def need {α γ:Type}(o:Option γ)(f:γ->R α):R α:=match o with
 | some x=>f x
 | none=>.bad
@[simp] theorem aG {α γ:Type}(x:γ) (f:γ->R α):need (some x) f=f x:=rfl
theorem Out.aI {α β γ:Type}{rl:Rl α β}{ρ:List Addr}{H:Hp}{o:Option γ}{f:γ->R α}{Q:β->Hp->Prop}(h:Out T XE rl ρ H (need o f) Q):∃ x,o=some x/\Out T XE rl ρ H (f x) Q:=by
 cases o with
 | none=>exact h.elim
 | some x=>exact⟨x,rfl,h⟩
def aq (s:S)(i:Nat):Option (List AV):=match s[i]? with
 | some (.lst xs)=>some xs
 | _=>none
theorem ay {s:S}{i:Nat}{xs:List AV}(h:aq s i=some xs):s[i]? = some (.lst xs):=by
 unfold aq at h
 split at h
 ·cases h;assumption
 ·cases h
theorem c7 {s:S}{i:Nat}{xs:List AV}(h:s[i]? = some (.lst xs)):aq s i=some xs:=by
 unfold aq;rw[h]
def av:AV->AV->S->R AV
 | .int i,.int j,s=>.ok (.int (i+j)) s
 | .str x,.str y,s=>if x.length+y.length<=sizeLine then .ok (.str (x++y)) s else .bad
 | .tup xs,.tup ys,s=>if ys≠[]/\xs.length+ys.length<=sizeLine then .ok (.tup (xs++ys)) s else .bad
 | .ref i,.ref j,s=>need (aq s i) λ xs=>need (aq s j) λ ys=>if xs.length+ys.length<=sizeLine then .ok (.ref s.length) (s++[.lst (xs++ys)]) else .bad
 | _,_,_=>.bad
theorem aR.ne {ρ:List Addr}{H:Hp}{l:List AV}{xs:List V}(h:aR T ρ H l xs)(k:l≠[]):xs≠[]:=by
 intro z
 have:=h.length
 rw[z]at this
 exact k (List.length_eq_zero_iff.mp this)
theorem OR.lst {ρ:List Addr}{H:Hp}{a:Addr}{xs:List AV}{vs:List V}(h:H a=some (.lst vs)) (k:aR T ρ H xs vs):OR T ρ H (.lst xs) a:=⟨vs,h,k⟩
theorem LQ (hK:X.K=T.K):e_ X (binaryOp .Add) (lF T XE av):=by
 intro pins s σ H x y v u Q I rx ry ⟨ρ,a,b,st,sr,va,vb,ho⟩
 cases a<;>cases b<;>try exact ho.elim
 ·exact Fg pins s σ H x y v u Q I rx ry ⟨_,_,va.int_inv,vb.int_inv,ho.aW sr cO⟩
 ·obtain⟨hl,ho⟩:=ho.bK
  exact uP pins s σ H x y v u Q I rx ry ⟨_,_,va.str_inv,vb.str_inv,hl,ho.aW sr hJ⟩
 ·obtain⟨hl,ho⟩:=ho.bK
  obtain⟨p,vs,rfl,h1,k1⟩:=va.c6
  obtain⟨q,ws,rfl,h2,k2⟩:=vb.c6
  refine zh pins s σ H (.ref p) (.ref q) v u Q I rx ry ⟨p,q,vs,ws,rfl,rfl,hK ▸ h1,hK ▸ h2,k2.ne hl.1,by rw[<-k1.length,<-k2.length];exact hl.2,λ hx=>?_,λ _ r hr=>ho.tup sr hr (k1.append k2)⟩
  have Ab:vs=[]:=hx
  subst Ab
  exact ho.aW sr (jK h2 (k1.append k2))
 ·obtain⟨xs,e1,ho⟩:=ho.aI
  obtain⟨ys,e2,ho⟩:=ho.aI
  obtain⟨hl,ho⟩:=ho.bK
  obtain⟨p,vs,rfl,_,h1,k1⟩:=sr.dN (ay e1) va
  obtain⟨q,ws,rfl,_,h2,k2⟩:=sr.dN (ay e2) vb
  refine Ff pins s σ H (.ref p) (.ref q) v u Q I rx ry ⟨p,q,vs,ws,rfl,rfl,h1,h2,by rw[<-k1.length,<-k2.length];exact hl,λ r hr=>ho.alloc sr hr ?_⟩
  exact OR.lst aQ (aR.gr ((sr.dX hr).add hr).toGr (k1.append k2))
def fh:AV->AV->S->R AV
 | .int i,.int j,s=>.ok (.int (i - j)) s
 | _,_,_=>.bad
theorem LM:e_ X (binaryOp .Sub) (lF T XE fh):=by
 intro pins s σ H x y v u Q I rx ry ⟨ρ,a,b,st,sr,va,vb,ho⟩
 cases a<;>cases b<;>try exact ho.elim
 exact E8 pins s σ H x y v u Q I rx ry ⟨_,_,va.int_inv,vb.int_inv,ho.aW sr cO⟩
noncomputable def bf:AV->AV->S->R AV
 | .int i,.int j,s=>if rZ i/\rZ j then .ok (.int (i * j)) s else .bad
 | _,_,_=>.bad
theorem LP:e_ X (binaryOp .Mult) (lF T XE bf):=by
 intro pins s σ H x y v u Q I rx ry ⟨ρ,a,b,st,sr,va,vb,ho⟩
 cases a<;>cases b<;>try exact ho.elim
 obtain⟨hl,ho⟩:=ho.bK
 exact BV pins s σ H x y v u Q I rx ry ⟨_,_,va.int_inv,vb.int_inv,⟨hl.1.f,hl.2.f⟩,ho.aW sr cO⟩
noncomputable def di:AV->AV->S->R AV
 | .int i,.int j,s=>if j≠0/\C_ j then .ok (.int (i.fdiv j)) s else .bad
 | _,_,_=>.bad
theorem IH:e_ X (binaryOp .FloorDiv) (lF T XE di):=by
 intro pins s σ H x y v u Q I rx ry ⟨ρ,a,b,st,sr,va,vb,ho⟩
 cases a<;>cases b<;>try exact ho.elim
 obtain⟨hl,ho⟩:=ho.bK
 exact zg pins s σ H x y v u Q I rx ry ⟨_,_,va.int_inv,vb.int_inv,⟨hl.1,hl.2.f⟩,ho.aW sr cO⟩
def cR:AV->AV->S->R AV
 | .int i,.int j,s=>if j≠0 then .ok (.int (i.fmod j)) s else .bad
 | _,_,_=>.bad
theorem oMod:e_ X (binaryOp .Mod) (lF T XE cR):=by
 intro pins s σ H x y v u Q I rx ry ⟨ρ,a,b,st,sr,va,vb,ho⟩
 cases a<;>cases b<;>try exact ho.elim
 obtain⟨hl,ho⟩:=ho.bK
 exact BW pins s σ H x y v u Q I rx ry ⟨_,_,va.int_inv,vb.int_inv,hl,ho.aW sr cO⟩
instance {i j:Int}:Decidable (Dc i j):=inferInstanceAs (Decidable (0<=j/\j<=1000000/\i.natAbs < 2 ^ 64))
def pL:AV->AV->S->R AV
 | .int i,.int j,s=>if Dc i j then .ok (.int (i ^ j.toNat)) s else .bad
 | _,_,_=>.bad
theorem LN:e_ X (binaryOp .Pow) (lF T XE pL):=by
 intro pins s σ H x y v u Q I rx ry ⟨ρ,a,b,st,sr,va,vb,ho⟩
 cases a<;>cases b<;>try exact ho.elim
 obtain⟨hl,ho⟩:=ho.bK
 exact Fb pins s σ H x y v u Q I rx ry ⟨_,_,va.int_inv,vb.int_inv,hl,ho.aW sr cO⟩
def cn:AV->S->R AV
 | .int i,s=>.ok (.int (-i)) s
 | _,_=>.bad
theorem LO:J_ X (unaryOp .USub) (LI T XE cn):=by
 intro pins s σ H x v Q I rx ⟨ρ,a,st,sr,va,ho⟩
 cases a<;>try exact ho.elim
 exact DY pins s σ H x v Q I rx ⟨_,va.int_inv,ho.aW sr cO⟩
def ee:AV->AV->S->R AV
 | .int i,.int j,s=>.ok (.bl (decide (i < j))) s
 | .str i,.str j,s=>.ok (.bl (decide (i.cps.toList < j.cps.toList))) s
 | _,_,_=>.bad
theorem oLt:e_ X (compareOp .Lt) (lF T XE ee):=by
 intro pins s σ H x y v u Q I rx ry ⟨ρ,a,b,st,sr,va,vb,ho⟩
 cases a<;>cases b<;>try exact ho.elim
 ·exact Iu pins s σ H x y v u Q I rx ry ⟨_,_,va.int_inv,vb.int_inv,ho.aW sr dM⟩
 ·exact xD pins s σ H x y v u Q I rx ry ⟨_,_,va.str_inv,vb.str_inv,ho.aW sr dM⟩
def my:AV->AV->S->R AV
 | .int i,.int j,s=>.ok (.bl (decide (i<=j))) s
 | _,_,_=>.bad
theorem oLe:e_ X (compareOp .LtE) (lF T XE my):=by
 intro pins s σ H x y v u Q I rx ry ⟨ρ,a,b,st,sr,va,vb,ho⟩
 cases a<;>cases b<;>try exact ho.elim
 exact Iv pins s σ H x y v u Q I rx ry ⟨_,_,va.int_inv,vb.int_inv,ho.aW sr dM⟩
def jQ:AV->AV->S->R AV
 | .int i,.int j,s=>.ok (.bl (decide (j < i))) s
 | _,_,_=>.bad
theorem NT:e_ X (compareOp .Gt) (lF T XE jQ):=by
 intro pins s σ H x y v u Q I rx ry ⟨ρ,a,b,st,sr,va,vb,ho⟩
 cases a<;>cases b<;>try exact ho.elim
 exact Iw pins s σ H x y v u Q I rx ry ⟨_,_,va.int_inv,vb.int_inv,ho.aW sr dM⟩
def jR:AV->AV->S->R AV
 | .int i,.int j,s=>.ok (.bl (decide (j<=i))) s
 | _,_,_=>.bad
theorem NU:e_ X (compareOp .GtE) (lF T XE jR):=by
 intro pins s σ H x y v u Q I rx ry ⟨ρ,a,b,st,sr,va,vb,ho⟩
 cases a<;>cases b<;>try exact ho.elim
 exact Iy pins s σ H x y v u Q I rx ry ⟨_,_,va.int_inv,vb.int_inv,ho.aW sr dM⟩
def toD:Nat->S->AV->Option Dt
 | _,_,.aY=>some .aY
 | _,_,.bl b=>some (.bl b)
 | _,_,.int b=>some (.int b)
 | _,_,.str b=>some (.str b)
 | n+1,s,.tup xs=>(xs.mapM (toD n s)).map .tup
 | n+1,s,.sq xs=>(xs.mapM (toD n s)).map .lst
 | n+1,s,.ref i=>(aq s i).bind λ xs=>(xs.mapM (toD n s)).map .lst
 | _,_,_=>none
theorem nU {α β:Type}{f:α->Option β}{a:α}{l:List α}{r:List β}(h:(a :: l).mapM f=some r):∃ b q,f a=some b/\l.mapM f=some q/\r=b :: q:=by
 rw[List.mapM_cons]at h
 cases e1:f a with
 | none=>rw[e1]at h;cases h
 | some b=>
  cases e2:l.mapM f with
  | none=>rw[e1,e2]at h;cases h
  | some q=>rw[e1,e2]at h;cases h;exact⟨b,q,rfl,rfl,rfl⟩
theorem mT {ρ:List Addr}{H:Hp}{f:AV->Option Dt}(hf:∀ v d x,f v=some d->VR T ρ H v x->Rep T.K (λ _=>False) H d x):∀ {xs:List AV}{l:List Dt}{vs:List V},xs.mapM f=some l->aR T ρ H xs vs->cV T.K (λ _=>False) H l vs
 | [],l,vs,h,k=>by
  rw[List.mapM_nil]at h
  cases h
  unfold cV
  exact k.nil_inv
 | a :: r,l,vs,h,k=>by
  obtain⟨b,q,h1,h2,rfl⟩:=nU h
  obtain⟨x,ys,rfl,k1,k2⟩:=k.cons_inv
  unfold cV
  exact⟨x,ys,rfl,hf a b x h1 k1,mT hf h2 k2⟩
theorem jO {ρ:List Addr}{H:Hp}{s:S}(sr:SR T ρ s H):∀ (n:Nat) (v:AV) (d:Dt) (x:V),toD n s v=some d->VR T ρ H v x->Rep T.K (λ _=>False) H d x
 | n,.aY,d,x,h,k=>by
  have h:some Dt.aY=some d:=by cases n<;>exact h
  cases h;unfold Rep;exact k.jr
 | n,.bl b,d,x,h,k=>by
  have h:some (Dt.bl b)=some d:=by cases n<;>exact h
  cases h;unfold Rep;exact k.fH
 | n,.int b,d,x,h,k=>by
  have h:some (Dt.int b)=some d:=by cases n<;>exact h
  cases h;unfold Rep;exact k.int_inv
 | n,.str b,d,x,h,k=>by
  have h:some (Dt.str b)=some d:=by cases n<;>exact h
  cases h;unfold Rep;exact k.str_inv
 | 0,.tup xs,d,x,h,k=>by cases h
 | 0,.sq xs,d,x,h,k=>by cases h
 | 0,.ref xs,d,x,h,k=>by cases h
 | n+1,.tup xs,d,x,h,k=>by
  have h:(xs.mapM (toD n s)).map Dt.tup=some d:=h
  obtain⟨a,vs,rfl,h1,k1⟩:=k.c6
  cases e:xs.mapM (toD n s) with
  | none=>rw[e]at h;cases h
  | some l=>
   rw[e]at h;cases h
   unfold Rep
   exact⟨a,vs,rfl,λ z=>z,h1,mT (λ v d x=>jO sr n v d x) e k1⟩
 | n+1,.sq xs,d,x,h,k=>by
  have h:(xs.mapM (toD n s)).map Dt.lst=some d:=h
  obtain⟨a,vs,rfl,h1,k1⟩:=k.f6
  cases e:xs.mapM (toD n s) with
  | none=>rw[e]at h;cases h
  | some l=>
   rw[e]at h;cases h
   unfold Rep
   exact⟨a,vs,rfl,λ z=>z,h1.xp,mT (λ v d x=>jO sr n v d x) e k1⟩
 | n+1,.ref i,d,x,h,k=>by
  have h:(aq s i).bind (λ xs=>(xs.mapM (toD n s)).map Dt.lst)=some d:=h
  cases e0:aq s i with
  | none=>rw[e0]at h;cases h
  | some xs=>
   rw[e0]at h
   have h:(xs.mapM (toD n s)).map Dt.lst=some d:=h
   obtain⟨a,vs,rfl,_,h1,k1⟩:=sr.dN (ay e0) k
   cases e:xs.mapM (toD n s) with
   | none=>rw[e]at h;cases h
   | some l=>
    rw[e]at h;cases h
    unfold Rep
    exact⟨a,vs,rfl,λ z=>z,fJ.of h1,mT (λ v d x=>jO sr n v d x) e k1⟩
def mK (s:S):AV->AV->Option Bool
 | .aY,.aY=>some true
 | .aY,.int _=>some false|.int _,.aY=>some false|.aY,.bl _=>some false|.bl _,.aY=>some false|.aY,.str _=>some false|.str _,.aY=>some false
 | .int i,.int j=>some (decide (i=j))
 | .bl i,.bl j=>some (decide (i=j))
 | .str i,.str j=>some (decide (i=j))
 | .int _,.str _=>some false|.str _,.int _=>some false|.bl _,.str _=>some false|.str _,.bl _=>some false
 | v,w=>match toD 20 s v,toD 20 s w with
  | some (.tup l),some (.tup q)=>if dH l<=20 then some (dv l q) else none
  | some (.lst l),some (.lst q)=>if dH l<=20 then some (dv l q) else none
  | _,_=>none
def bI (v w:AV)(s:S):R AV:=need (mK s v w) λ b=>.ok (.bl b) s
def cY (v w:AV)(s:S):R AV:=need (mK s v w) λ b=>.ok (.bl (!b)) s
def AU (s:S)(v w:AV)(b:Bool):Prop:=∃ (c:Bool) (l q:List Dt),toD 20 s v=some (if c then .tup l else .lst l)/\toD 20 s w=some (if c then .tup q else .lst q)/\dH l<=20/\b=dv l q
theorem yc {s:S}{v w:AV}{b:Bool}(h:(match toD 20 s v,toD 20 s w with
  | some (.tup l),some (.tup q)=>if dH l<=20 then some (dv l q) else none
  | some (.lst l),some (.lst q)=>if dH l<=20 then some (dv l q) else none
  | _,_=>none)=some b):AU s v w b:=by
 split at h
 ·rename_i l q e1 e2
  split at h
  ·rename_i hd
   cases h
   exact⟨true,l,q,e1,e2,hd,rfl⟩
  ·cases h
 ·rename_i l q e1 e2
  split at h
  ·rename_i hd
   cases h
   exact⟨false,l,q,e1,e2,hd,rfl⟩
  ·cases h
 ·cases h
theorem tR {ρ:List Addr}{H:Hp}{s:S}{v w:AV}{b:Bool}{x y:V}(h:mK s v w=some b)(va:VR T ρ H v x)(vb:VR T ρ H w y):(Es x y=true/\decide (x=y)=b)∨AU s v w b:=by
  cases v<;>cases w<;>first
    | exact .inr (yc h)
    | (refine .inl ?_
       have h:some _=some b:=h
       cases h
       first
         | cases va.jr|cases va.int_inv|cases va.fH|cases va.str_inv
       first
         | cases vb.jr|cases vb.int_inv|cases vb.fH|cases vb.str_inv
       refine⟨rfl,?_⟩
       first
         | rfl
         | simp)
theorem oEq (hK:X.K=T.K)(hu:X.A.units+30 < cLine):e_ X (compareOp .Eq) (lF T XE bI):=by
 intro pins s σ H x y v u Q I rx ry ⟨ρ,a,b,st,sr,va,vb,ho⟩
 obtain⟨c,e,ho⟩:=ho.aI
 rcases tR e va vb with⟨h1,h2⟩|⟨t,l,q,e1,e2,hd,rfl⟩
 ·exact Iz pins s σ H x y v u Q I rx ry ⟨h1,by rw[h2];exact ho.aW sr dM⟩
 ·refine Fe hu pins s σ H x y v u Q I rx ry ⟨λ _=>False,λ _=>False,l,q,t,⟨?_,?_⟩,hd,ho.aW sr dM⟩
  ·exact hK ▸ jO sr 20 _ _ _ e1 va
  ·exact hK ▸ jO sr 20 _ _ _ e2 vb
theorem NS (hK:X.K=T.K)(hu:X.A.units+30 < cLine):e_ X (compareOp .NotEq) (lF T XE cY):=by
 intro pins s σ H x y v u Q I rx ry ⟨ρ,a,b,st,sr,va,vb,ho⟩
 obtain⟨c,e,ho⟩:=ho.aI
 rcases tR e va vb with⟨h1,h2⟩|⟨t,l,q,e1,e2,hd,rfl⟩
 ·exact Ir pins s σ H x y v u Q I rx ry ⟨h1,by rw[h2];exact ho.aW sr dM⟩
 ·refine Fc hu pins s σ H x y v u Q I rx ry ⟨λ _=>False,λ _=>False,l,q,t,⟨?_,?_⟩,hd,ho.aW sr dM⟩
  ·exact hK ▸ jO sr 20 _ _ _ e1 va
  ·exact hK ▸ jO sr 20 _ _ _ e2 vb
def wx:AV->Bool
 | .aY=>true
 | _=>false
def IC:AV->AV->S->R AV
 | v,.aY,s=>.ok (.bl (wx v)) s
 | _,_,_=>.bad
def BZ:AV->AV->S->R AV
 | v,.aY,s=>.ok (.bl (!wx v)) s
 | .bl a,.bl b,s=>.ok (.bl (a != b)) s
 | _,_,_=>.bad
end
end Mm
namespace Mm
open PySem L2
section
variable {T:Tx}{XE:fU}{X:Cx}{pos:Pos}
def ah:dR:=λ _ s=>.ok [] s
def aa (a:Ev)(r:dR):dR:=λ env s=>(a env s).bind λ v s1=>(r env s1).bind λ vs s2=>.ok (v :: vs) s2
theorem vW:PA X [] (tP T XE ah):=PA.imp gK λ σ H Q ⟨ρ,env,s,hs,he,ho⟩=>ho.here (x:=[]) hs (aR.nil (T:=T) (ρ:=ρ) (H:=H))
theorem sL {e:Expr}{es:List Expr}{m:Ev}{r:dR}(ha:PE X e (tE T XE m)) (hr:PA X es (tP T XE r)) (hs:starEach (e :: es) X.env=(false,eval e X.env) :: starEach es X.env:=by rfl):PA X (e :: es) (tP T XE (aa m r)):=
 PA.imp (cQ ha hr hs) λ σ H Q ⟨ρ,env,s,hs,he,ho⟩=>
  step hs he ho λ v s1 ρ1 H1 x _ u1 bo cS a6 aP=>step bo cS aP λ w s2 ρ2 H2 y _ u2 hV mJ j' c9=>c9.here hV (aR.cons (VR.up u2 a6) j')
def aT (r:dR):Ev:=λ env s=>(r env s).bind λ vs s1=>if vs.length<=sizeLine then .ok (.tup vs) s1 else .bad
theorem Fz {es:List Expr}{k:Nat}{r:dR}(h:PA X es (tP T XE r)):PE X (.Tuple es k pos) (tE T XE (aT r)):=
 PE.imp (zc h) λ σ H Q ⟨ρ,env,s,hs,he,ho⟩=>step hs he ho λ v s1 ρ1 H1 x _ u1 bo cS a6 aP=>by
  obtain⟨hl,aP⟩:=aP.bK
  have a6:aR T ρ1 H1 v x:=a6
  exact⟨by rw[<-a6.length];exact hl,λ p hp=>aP.tup bo hp a6⟩
def bz (r:dR):dR:=λ env s=>(r env s).bind λ vs s1=>if vs.length<=sizeLine then .ok vs s1 else .bad
theorem zD {es:List Expr}{r:dR}(h:PA X es (tP T XE r)):PE X (.List es pos) (tL T XE (bz r)):=
 PE.imp (EX h) λ σ H Q ⟨ρ,env,s,hs,he,ho⟩=>step hs he ho λ v s1 ρ1 H1 x _ u1 bo cS a6 aP=>by
  obtain⟨hl,aP⟩:=aP.bK
  have a6:aR T ρ1 H1 v x:=a6
  exact⟨by rw[<-a6.length];exact hl,λ p hp=>aP.lst bo hp a6⟩
def aF (r:dR):Ev:=λ env s=>(r env s).bind λ vs s1=>.ok (.ref s1.length) (s1++[.lst vs])
theorem zF {e:Expr}{r:dR}(h:PE X e (tL T XE r)):PE X e (tE T XE (aF r)):=
 PE.imp h λ σ H Q ⟨ρ,env,s,hs,he,ho⟩=>by
  refine⟨ρ,env,s,hs,he,?_⟩
  unfold aF at ho
  cases e:r env s with
  | bad=>rw[e]at ho;exact ho
  | ex c s1=>rw[e]at ho;exact ho
  | ok vs s1=>
   rw[e]at ho
   intro ρ1 H1 x u sr ⟨a,ws,e1,h0,h1,h2,k⟩
   subst e1
   have g:Gr ρ1 H1 (ρ1++[a]) H1:=⟨List.prefix_append _ _,λ _ _ z=>z,λ _ _ _ z=>z⟩
   refine ho (ρ1++[a]) H1 (.ref a) (u.add h0) (sr.add h1 (OR.lst h2 (k.gr g))) (ni (T:=T) (H:=H1) ?_)
   rw[List.getElem?_append_right (by rw[sr.len];exact Nat.le_refl _),sr.len,Nat.sub_self];rfl
def items (v:AV)(s:S):Option (List AV):=match v with
 | .tup xs=>some xs
 | .sq xs=>some xs
 | .ref i=>aq s i
 | _=>none
theorem p5 {ρ:List Addr}{H:Hp}{s:S}{v:AV}{xs:List AV}{x:V}(h:items v s=some xs)(sr:SR T ρ s H)(va:VR T ρ H v x):∃ a vs,x=.ref a/\(fJ T.K H a vs∨gF T.K H a vs)/\aR T ρ H xs vs:=by
 cases v<;>try cases h
 ·obtain⟨a,vs,rfl,h1,k⟩:=va.c6
  exact⟨a,vs,rfl,.inr h1,k⟩
 ·obtain⟨a,vs,rfl,_,h1,k⟩:=sr.dN (ay h) va
  exact⟨a,vs,rfl,.inl (fJ.of h1),k⟩
 ·obtain⟨a,vs,rfl,h1,k⟩:=va.f6
  exact⟨a,vs,rfl,.inl h1.xp,k⟩
def eh (m:Ev):dR:=λ env s=>(m env s).bind λ v s1=>need (items v s1) λ xs=>.ok xs s1
theorem Fw {e:Expr}{m:Ev}(h:PE X e (tE T XE m)):PE X e (tQ T XE (eh m)):=
 PE.imp h λ σ H Q ⟨ρ,env,s,hs,he,ho⟩=>step hs he ho λ v s1 ρ1 H1 x _ u1 bo cS a6 aP=>by
  obtain⟨xs,e,aP⟩:=aP.aI
  exact aP ρ1 H1 x .refl bo (p5 e bo a6)
mutual
def AV.low (b:Nat):AV->Bool
 | .ref i=>decide (i < b)
 | .tup xs=>bx b xs
 | .sq xs=>bx b xs
 | _=>true
def bx (b:Nat):List AV->Bool
 | []=>true
 | v :: r=>v.low b && bx b r
end
mutual
theorem VR.cut {ρ ρ':List Addr}{H:Hp}{b:Nat}(e:ρ'.take b=ρ):∀ {v:AV}{x:V},v.low b=true->VR T ρ' H v x->VR T ρ H v x
 | .aY,_,_,h=>by unfold VR at *;exact h
 | .bl _,_,_,h=>by unfold VR at *;exact h
 | .int _,_,_,h=>by unfold VR at *;exact h
 | .str _,_,_,h=>by unfold VR at *;exact h
 | .ref i,_,k,h=>by
  obtain⟨a,e1,rfl⟩:=h.jo
  unfold AV.low at k
  exact ni (by rw[<-e,List.getElem?_take_of_lt (of_decide_eq_true k)];exact e1)
 | .tup xs,_,k,h=>by
  obtain⟨a,vs,rfl,h1,h2⟩:=h.c6
  unfold AV.low at k
  exact jK h1 (aR.cut e k h2)
 | .sq xs,_,k,h=>by
  obtain⟨a,vs,rfl,h1,h2⟩:=h.f6
  unfold AV.low at k
  unfold VR
  exact⟨a,vs,rfl,h1,aR.cut e k h2⟩
theorem aR.cut {ρ ρ':List Addr}{H:Hp}{b:Nat}(e:ρ'.take b=ρ):∀ {v:List AV}{x:List V},bx b v=true->aR T ρ' H v x->aR T ρ H v x
 | [],_,_,h=>by cases h.nil_inv;exact .nil
 | _ :: _,_,k,h=>by
  obtain⟨x,ys,rfl,h1,h2⟩:=h.cons_inv
  unfold bx at k
  rw[Bool.and_eq_true]at k
  exact .cons (VR.cut e k.1 h1) (aR.cut e k.2 h2)
end
mutual
theorem VR.low {ρ:List Addr}{H:Hp}:∀ {v:AV}{x:V},VR T ρ H v x->v.low ρ.length=true
 | .aY,_,_=>by unfold AV.low;rfl
 | .bl _,_,_=>by unfold AV.low;rfl
 | .int _,_,_=>by unfold AV.low;rfl
 | .str _,_,_=>by unfold AV.low;rfl
 | .ref i,_,h=>by
  obtain⟨a,e1,rfl⟩:=h.jo
  unfold AV.low
  exact decide_eq_true (List.getElem?_eq_some_iff.mp e1).1
 | .tup xs,_,h=>by
  obtain⟨a,vs,rfl,h1,h2⟩:=h.c6
  unfold AV.low
  exact aR.low h2
 | .sq xs,_,h=>by
  obtain⟨a,vs,rfl,h1,h2⟩:=h.f6
  unfold AV.low
  exact aR.low h2
theorem aR.low {ρ:List Addr}{H:Hp}:∀ {v:List AV}{x:List V},aR T ρ H v x->bx ρ.length v=true
 | [],_,_=>by unfold bx;rfl
 | _ :: _,_,h=>by
  obtain⟨x,ys,rfl,h1,h2⟩:=h.cons_inv
  unfold bx
  rw[VR.low h1,aR.low h2];rfl
end
def AO.low (b:Nat):AO->Bool
 | .lst xs=>bx b xs
 | .dK kvs=>bx b (kvs.map (·.2))
 | .dT kvs=>bx b (kvs.map (·.2))
 | .ins _ fs=>bx b (fs.map (·.2))
 | .exc _=>true
 | .tab _ _=>true
theorem OR.low {ρ:List Addr}{H:Hp}{o:AO}{a:Addr}(h:OR T ρ H o a):o.low ρ.length=true:=by
 cases o with
 | lst xs=>obtain⟨_,_,k⟩:=h;exact k.low
 | dK xs=>obtain⟨_,_,_,k⟩:=h;exact k.low
 | dT xs=>obtain⟨_,_,_,k⟩:=h;exact k.low
 | ins C xs=>obtain⟨_,_,_,_,k⟩:=h;exact k.low
 | exc C=>rfl
 | tab i q=>rfl
theorem OR.cut {ρ ρ':List Addr}{H:Hp}{b:Nat}(e:ρ'.take b=ρ){o:AO}{a:Addr}(k:o.low b=true)(h:OR T ρ' H o a):OR T ρ H o a:=by
 cases o with
 | lst xs=>obtain⟨vs,h1,h2⟩:=h;exact⟨vs,h1,aR.cut e k h2⟩
 | dK xs=>obtain⟨vs,h1,q,h2⟩:=h;exact⟨vs,h1,q,aR.cut e k h2⟩
 | dT xs=>obtain⟨vs,h1,q,h2⟩:=h;exact⟨vs,h1,q,aR.cut e k h2⟩
 | ins C xs=>obtain⟨dx,vs,h1,q,h2⟩:=h;exact⟨dx,vs,h1,q,aR.cut e k h2⟩
 | exc C=>exact h
 | tab i q=>exact h
theorem SR.closed {ρ:List Addr}{H:Hp}{s:S}(sr:SR T ρ s H):s.all (AO.low s.length)=true:=by
 rw[List.all_eq_true]
 intro o ho
 obtain⟨i,hi,e⟩:=List.getElem_of_mem ho
 obtain⟨a,_,q⟩:=sr.obj i o (by rw[List.getElem?_eq_getElem hi,e])
 rw[<-sr.len]
 exact q.low
theorem SR.cut {ρ ρ':List Addr}{H:Hp}{s':S}{b:Nat}(sr:SR T ρ' s' H)(hl:ρ <+: ρ')(hb:ρ.length=b)(k:(s'.take b).all (AO.low b)=true):SR T ρ (s'.take b) H:=by
 have e:ρ'.take b=ρ:=by obtain⟨t,rfl⟩:=hl;rw[<-hb,List.take_left'];rfl
 have hle:b<=s'.length:=by rw[<-hb,<-sr.len];exact hl.length_le
 refine⟨?_,by rw[List.length_take,Nat.min_eq_left hle];exact hb,λ i o ei=>?_⟩
 ·rw[<-e];exact sr.nd.sublist (List.take_sublist _ _)
 ·have hi:i < b:=by have:=(List.getElem?_eq_some_iff.mp ei).1;rw[List.length_take]at this;omega
  have Q3:=ei
  rw[List.getElem?_take_of_lt hi]at ei
  obtain⟨a,e1,q⟩:=sr.obj i o ei
  refine⟨a,by rw[<-e,List.getElem?_take_of_lt hi];exact e1,q.cut e ?_⟩
  exact List.all_eq_true.mp k o (List.mem_of_getElem? Q3)
theorem Up.cut {ρ ρ':List Addr}{H H':Hp}(u:Up ρ H ρ' H'):Up ρ H ρ H':=⟨⟨List.prefix_rfl,u.ju,u.iz⟩,λ b o e n=>⟨(u.fr b o e n).1,n⟩,u.live⟩
noncomputable def gu (m:Ev):Ev:=λ env s=>(m env s).bind λ v s1=>open Classical in if s1.take s.length=s/\v.low s.length=true then .ok v s else .bad
theorem IZ {e:Expr}{m:Ev}(h:PE X e (tE T XE m)):PE X e (tE T XE (gu m)):=
 PE.imp h λ σ H Q ⟨ρ,env,s,hs,he,ho⟩=>by
  refine⟨ρ,env,s,hs,he,?_⟩
  unfold gu at ho
  cases e:m env s with
  | bad=>rw[e]at ho;exact ho
  | ex c s1=>rw[e]at ho;exact ho
  | ok v s1=>
   rw[e]at ho
   obtain⟨⟨e1,e2⟩,ho⟩:=ho.bK
   intro ρ1 H1 x u sr vr
   have hc:=hs.closed
   have et:ρ1.take s.length=ρ:=by obtain⟨t,rfl⟩:=u.pre;rw[<-hs.len,List.take_left'];rfl
   refine ho ρ H1 x u.cut ?_ (VR.cut et e2 vr)
   have:=sr.cut u.pre hs.len (by rw[e1];exact hc)
   rw[e1]at this
   exact this
def CK (m:Ev):Ev:=λ env s=>(m env s).bind λ v s1=>if (s1.take s.length).all (AO.low s.length)=true/\v.low s.length=true then .ok v (s1.take s.length) else .bad
theorem FJ {e:Expr}{m:Ev}(h:PE X e (tE T XE m)):PE X e (tE T XE (CK m)):=
 PE.imp h λ σ H Q ⟨ρ,env,s,hs,he,ho⟩=>by
  refine⟨ρ,env,s,hs,he,?_⟩
  unfold CK at ho
  cases e:m env s with
  | bad=>rw[e]at ho;exact ho
  | ex c s1=>rw[e]at ho;exact ho
  | ok v s1=>
   rw[e]at ho
   obtain⟨⟨e1,e2⟩,ho⟩:=ho.bK
   intro ρ1 H1 x u sr vr
   have et:ρ1.take s.length=ρ:=by obtain⟨t,rfl⟩:=u.pre;rw[<-hs.len,List.take_left'];rfl
   exact ho ρ H1 x u.cut (sr.cut u.pre hs.len e1) (VR.cut et e2 vr)
def sZ (m:Ev):dR:=λ env s=>(m env s).bind λ v s1=>match v with
 | .ref k=>need (aq s1 k) λ xs=>if s.length<=k/\(s1.take s.length).all (AO.low s.length)=true/\bx s.length xs=true then .ok xs (s1.take s.length) else .bad
 | _=>.bad
theorem Cd {e:Expr}{m:Ev}(h:PE X e (tE T XE m)):PE X e (tL T XE (sZ m)):=
 PE.imp h λ σ H Q ⟨ρ,env,s,hs,he,ho⟩=>by
  refine⟨ρ,env,s,hs,he,?_⟩
  unfold sZ at ho
  cases e:m env s with
  | bad=>rw[e]at ho;exact ho
  | ex c s1=>rw[e]at ho;exact ho
  | ok v s1=>
   rw[e]at ho
   cases v with
   | ref k=>
    obtain⟨xs,e0,ho⟩:=ho.aI
    obtain⟨⟨hk,e1,e2⟩,ho⟩:=ho.bK
    intro ρ1 H1 x u sr vr
    obtain⟨a,vs,rfl,ea,h1,k1⟩:=sr.dN (ay e0) vr
    have et:ρ1.take s.length=ρ:=by obtain⟨t,rfl⟩:=u.pre;rw[<-hs.len,List.take_left'];rfl
    have na:a∉ρ:=λ z=>by
     obtain⟨j,hj,ej⟩:=List.getElem_of_mem z
     have e3:ρ1[j]? = some a:=vN u.pre (by rw[List.getElem?_eq_getElem hj,ej])
     have h3:=List.getElem?_eq_some_iff.mp ea
     have h4:=List.getElem?_eq_some_iff.mp e3
     have:k=j:=(List.getElem_inj sr.nd).mp (h3.2.trans h4.2.symm)
     rw[hs.len]at hj
     omega
    refine ho ρ H1 (.ref a) u.cut (sr.cut u.pre hs.len e1) ⟨a,vs,rfl,?_,na,h1,aR.cut et e2 k1⟩
    cases eH:H a with
    | none=>rfl
    | some o=>exact absurd (List.mem_of_getElem? ea) (u.fr a o eH na).2
   | aY=>exact ho.elim
   | bl b=>exact ho.elim
   | int b=>exact ho.elim
   | str b=>exact ho.elim
   | tup b=>exact ho.elim
   | sq b=>exact ho.elim
end
end Mm
namespace Mm
open PySem L2
section
variable {T:Tx}{XE:fU}{X:Cx}{pos:Pos}
theorem tJ {ρ:List Addr}{H:Hp}{b:Bool}{s:S}{Q:Bool->Hp->Prop}(h:Out T XE rB ρ H (.ok b s) Q) (sr:SR T ρ s H):Q b H:=h ρ H b .refl sr rfl
def truth (v:AV)(s:S):Option Bool:=match v with
 | .aY=>some false
 | .bl b=>some b
 | .int i=>some (i != 0)
 | .str x=>if x.length<=sizeLine then some ((x.length:Int) != 0) else none
 | .tup xs=>some (!xs.isEmpty)
 | .sq xs=>some (!xs.isEmpty)
 | .ref i=>match s[i]? with
  | some (.lst xs)=>some (!xs.isEmpty)
  | some (.dK xs)=>some (!xs.isEmpty)
  | _=>none
theorem aR.emp {ρ:List Addr}{H:Hp}{l:List AV}{xs:List V}(h:aR T ρ H l xs):l.isEmpty=xs.isEmpty:=by
 cases l with
 | nil=>cases h.nil_inv;rfl
 | cons a r=>obtain⟨x,ys,rfl,_⟩:=h.cons_inv;rfl
theorem xl {ρ:List Addr}{H:Hp}{s:S}{v:AV}{b:Bool}{x:V}(h:truth v s=some b)(sr:SR T ρ s H)(va:VR T ρ H v x):Hc T.K x H b:=by
 cases v with
 | aY=>cases va.jr;cases h;rfl
 | bl c=>cases va.fH;cases h;rfl
 | int c=>cases va.int_inv;cases h;rfl
 | str c=>
  cases va.str_inv
  have h:(if c.length<=sizeLine then some ((c.length:Int) != 0) else none)=some b:=h
  split at h
  ·cases h;exact⟨by assumption,rfl⟩
  ·cases h
 | tup c=>
  obtain⟨a,vs,rfl,h1,k⟩:=va.c6
  cases h
  exact .inr (.inl ⟨vs,h1,by rw[k.emp]⟩)
 | sq c=>
  obtain⟨a,vs,rfl,h1,k⟩:=va.f6
  cases h
  exact .inl ⟨vs,h1.xp,by rw[k.emp]⟩
 | ref i=>
  have h:(match s[i]? with
   | some (.lst xs)=>some (!xs.isEmpty)
   | some (.dK xs)=>some (!xs.isEmpty)
   | _=>none)=some b:=h
  split at h
  ·rename_i xs e
   cases h
   obtain⟨a,vs,rfl,_,h1,k⟩:=sr.dN e va
   exact .inl ⟨vs,fJ.of h1,by rw[k.emp]⟩
  ·rename_i xs e
   cases h
   obtain⟨a,vs,rfl,_,h1,k1,k⟩:=sr.yf e va
   refine .inr (.inr ⟨vs,h1,?_⟩)
   have:=congrArg List.length k1
   rw[List.length_map,List.length_map]at this
   cases xs<;>cases vs<;>first|rfl|(simp at this)
  ·cases h
def cT (m:Ev):Eb:=λ env s=>(m env s).bind λ v s1=>need (truth v s1) λ b=>.ok b s1
def cB (m:Ev):Eb:=λ env s=>(m env s).bind λ v s1=>match v with
 | .bl b=>.ok b s1
 | _=>.bad
theorem LK {e:Expr}{m:Ev}(hK:X.K=T.K)(h:PE X e (tE T XE m)) (he:∀ whole,isTrue e X.env whole=(do let v <-whole;standAt e.pos;holding [v] (truthy v)):=by intro _;rfl):PT X e (jn T XE (cT m)):=
 PT.imp (yU h he) λ σ H Q ⟨ρ,env,s,hs,he,ho⟩=>step hs he ho λ v s1 ρ1 H1 x _ u1 bo cS a6 aP=>by
  obtain⟨b,e,aP⟩:=aP.aI
  exact⟨b,by rw[hK];exact xl e bo a6,tJ aP bo⟩
theorem yG {m:Ev}{σ:St}{H:Hp}{Q:Bool->Hp->Prop}(h:jn T XE (cB m) σ H Q):tE T XE m σ H λ x H'=>∃ k,x=.bl k/\Q k H':=by
 obtain⟨ρ,env,s,hs,he,ho⟩:=h
 refine step hs he ho λ v s1 ρ1 H1 x _ u1 bo cS a6 aP=>?_
 have a6:VR T ρ1 H1 v x:=a6
 cases v<;>try exact aP.elim
 exact⟨_,a6.fH,tJ aP bo⟩
theorem hZ {o:CmpOp}{op:AV->AV->S->R AV}{a b:Expr}{m1 m2:Ev}(u7:e_ X (compareOp o) (lF T XE op)) (ha:PE X a (tE T XE m1)) (hb:PE X b (tE T XE m2)) (hm:behindInMarks o b=false:=by rfl):PT X (.Compare a [o] [b] pos) (jn T XE (cB (af op m1 m2))):=
 PT.imp (Bw u7 ha hb hm) λ σ H Q h=>t2 (yG h)
def b9 (op rT:AV->AV->S->R AV)(a b c:Ev):Ev:=λ env s=>(a env s).bind λ v s1=>(b env s1).bind λ w s2=>(op v w s2).bind λ r s3=>match r with
 | .bl true=>(c env s3).bind λ z s4=>rT w z s4
 | .bl false=>.ok (.bl false) s3
 | _=>.bad
theorem t3 {op rT:AV->AV->S->R AV}{a b c:Ev}{σ:St}{H:Hp}{Q:VK}(h:tE T XE (b9 op rT a b c) σ H Q):uE (lF T XE op) (lF T XE rT) (tE T XE a) (tE T XE b) (tE T XE c) σ H Q:=by
 obtain⟨ρ,env,s,hs,he,ho⟩:=h
 refine step hs he ho λ v s1 ρ1 H1 x _ u1 bo cS a6 aP=>step bo cS aP λ w s2 ρ2 H2 y _ u2 hV mJ j' c9=>⟨ρ2,v,w,s2,hV,VR.up u2 a6,j',?_⟩
 cases e:op v w s2 with
 | bad=>rw[e]at c9;exact c9
 | ex c s3=>rw[e]at c9;exact c9
 | ok r s3=>
  rw[e]at c9
  intro ρ3 H3 z u3 oX HD
  have HD:VR T ρ3 H3 r z:=HD
  have c9:=Out.up u3 c9
  cases r<;>try exact c9.elim
  rename_i k _ _
  refine⟨k,HD.fH,?_⟩
  cases k with
  | false=>rw[if_neg (by decide)];exact c9.aW oX dM
  | true=>
   rw[if_pos rfl]
   exact step oX (mJ.up u3) c9 λ q s4 ρ4 H4 x4 _ u4 Lp RW KW Js=>⟨ρ4,w,q,s4,Lp,VR.up (u3.trans u4) j',KW,Js⟩
theorem kL {o o':CmpOp}{op rT:AV->AV->S->R AV}{a b c:Expr}{m1 m2 m3:Ev}(u7:e_ X (compareOp o) (lF T XE op)) (Gh:e_ X (compareOp o') (lF T XE rT)) (ha:PE X a (tE T XE m1)) (hb:PE X b (tE T XE m2)) (hc:PE X c (tE T XE m3))
  (hm:lastMarks [o,o'] [b,c]=false:=by with_unfolding_all rfl):PE X (.Compare a [o,o'] [b,c] pos) (tE T XE (b9 op rT m1 m2 m3)):=PE.imp (zf u7 Gh ha hb hc hm) λ _ _ _ h=>t3 h
theorem jq {o o':CmpOp}{op rT:AV->AV->S->R AV}{a b c:Expr}{m1 m2 m3:Ev}(u7:e_ X (compareOp o) (lF T XE op)) (Gh:e_ X (compareOp o') (lF T XE rT)) (ha:PE X a (tE T XE m1)) (hb:PE X b (tE T XE m2)) (hc:PE X c (tE T XE m3))
  (hm:lastMarks [o,o'] [b,c]=false:=by with_unfolding_all rfl):PT X (.Compare a [o,o'] [b,c] pos) (jn T XE (cB (b9 op rT m1 m2 m3))):=PT.imp (yV u7 Gh ha hb hc hm) λ σ H Q h=>t3 (yG h)
def J7 (a b:Eb):Eb:=λ env s=>(a env s).bind λ c s1=>if c=true then b env s1 else .ok false s1
def iM (a b:Eb):Eb:=λ env s=>(a env s).bind λ c s1=>if c=true then .ok true s1 else b env s1
def cF (a:Eb):Eb:=λ env s=>(a env s).bind λ c s1=>.ok (!c) s1
def yl (c:Eb)(a b:Ev):Ev:=λ env s=>(c env s).bind λ k s1=>if k=true then a env s1 else b env s1
theorem pw_or1' {a:Expr}{m:Eb}(h:PT X a (jn T XE m)):PW X (.BoolOp .Or [a] pos) (jn T XE m):=pw_or1 h
theorem pw_or' {a b:Expr}{rest:List Expr}{m r:Eb}(h:PT X a (jn T XE m)) (k:PW X (.BoolOp .Or (b :: rest) pos) (jn T XE r)):PW X (.BoolOp .Or (a :: b :: rest) pos) (jn T XE (iM m r)):=
 PW.imp (pw_or h k) λ σ H Q ⟨ρ,env,s,hs,he,ho⟩=>step hs he ho λ v s1 ρ1 H1 x _ u1 bo cS a6 aP=>by
  cases (show v=x from a6)
  cases v with
  | true=>exact tJ aP bo
  | false=>exact⟨ρ1,env,s1,bo,cS,aP⟩
theorem Bu {a:Expr}{m:Eb}(h:PT X a (jn T XE m)):PT X (.UnaryOp .Not a pos) (jn T XE (cF m)):=
 PT.imp (ED h) λ σ H Q ⟨ρ,env,s,hs,he,ho⟩=>step hs he ho λ v s1 ρ1 H1 x _ u1 bo cS a6 aP=>by
  cases (show v=x from a6)
  exact tJ aP bo
theorem IY {c a b:Expr}{AZ:Eb}{ma mb:Ev}(hc:PT X c (jn T XE AZ)) (ha:PE X a (tE T XE ma)) (hb:PE X b (tE T XE mb)):PE X (.IfExp c a b pos) (tE T XE (yl AZ ma mb)):=
 PE.imp (zd hc ha hb) λ σ H Q ⟨ρ,env,s,hs,he,ho⟩=>step hs he ho λ v s1 ρ1 H1 x _ u1 bo cS a6 aP=>by
  cases (show v=x from a6)
  cases v with
  | true=>exact⟨ρ1,env,s1,bo,cS,aP⟩
  | false=>exact⟨ρ1,env,s1,bo,cS,aP⟩
def eJ (a b:Ev):Ev:=λ env s=>(a env s).bind λ v s1=>match v with
 | .bl true=>b env s1
 | .bl false=>.ok (.bl false) s1
 | _=>.bad
def zI (a b:Ev):Ev:=λ env s=>(a env s).bind λ v s1=>match v with
 | .bl true=>.ok (.bl true) s1
 | .bl false=>b env s1
 | _=>.bad
def jD:AV->S->R AV
 | .bl b,s=>.ok (.bl (!b)) s
 | _,_=>.bad
theorem FD {op:BoolOp}{a:Expr}{m:Ev}(h:PE X a (tE T XE m)):PE X (.BoolOp op [a] pos) (tE T XE m):=EU h
theorem FK {a b:Expr}{rest:List Expr}{m r:Ev}(h:PE X a (tE T XE m)) (k:PE X (.BoolOp .And (b :: rest) pos) (tE T XE r)):PE X (.BoolOp .And (a :: b :: rest) pos) (tE T XE (eJ m r)):=
 PE.imp (E4 h k) λ σ H Q ⟨ρ,env,s,hs,he,ho⟩=>step hs he ho λ v s1 ρ1 H1 x _ u1 bo cS a6 aP=>by
  have a6:VR T ρ1 H1 v x:=a6
  cases v<;>try exact aP.elim
  rename_i b _ _
  refine⟨b,a6.fH,?_⟩
  cases b with
  | true=>exact⟨ρ1,env,s1,bo,cS,aP⟩
  | false=>exact aP.aW bo dM
theorem IW {a b:Expr}{rest:List Expr}{m r:Ev}(h:PE X a (tE T XE m)) (k:PE X (.BoolOp .Or (b :: rest) pos) (tE T XE r)):PE X (.BoolOp .Or (a :: b :: rest) pos) (tE T XE (zI m r)):=
 PE.imp (Ij h k) λ σ H Q ⟨ρ,env,s,hs,he,ho⟩=>step hs he ho λ v s1 ρ1 H1 x _ u1 bo cS a6 aP=>by
  have a6:VR T ρ1 H1 v x:=a6
  cases v<;>try exact aP.elim
  rename_i b _ _
  refine⟨b,a6.fH,?_⟩
  cases b with
  | true=>exact aP.aW bo dM
  | false=>exact⟨ρ1,env,s1,bo,cS,aP⟩
theorem FE {a:Expr}{m:Ev}(h:PE X a (tE T XE m)):PE X (.UnaryOp .Not a pos) (tE T XE (cK jD m)):=
 PE.imp (EV h) λ σ H Q ⟨ρ,env,s,hs,he,ho⟩=>step hs he ho λ v s1 ρ1 H1 x _ u1 bo cS a6 aP=>by
  have a6:VR T ρ1 H1 v x:=a6
  cases v<;>try exact aP.elim
  exact⟨_,a6.fH,aP.aW bo dM⟩
theorem aR.gS {ρ:List Addr}{H:Hp}{l:List AV}{xs:List V}{i:Int}{v:AV}(h:aR T ρ H l xs)(e:gS l i=some v):∃ x,L2.gS xs i=some x/\VR T ρ H v x:=by
 unfold L2.gS at *
 rw[<-h.length]
 cases e1:qQ l.length i with
 | none=>rw[e1]at e;cases e
 | some j=>rw[e1]at e;exact h.get e
def ai:AV->AV->S->R AV
 | .tup xs,.int i,s=>need (gS xs i) λ v=>.ok v s
 | .sq xs,.int i,s=>need (gS xs i) λ v=>.ok v s
 | .ref k,.int i,s=>need (aq s k) λ xs=>need (gS xs i) λ v=>.ok v s
 | .str z,.int i,s=>if z.length<=sizeLine then need (gS z.cps.toList i) λ c=>.ok (.str ⟨#[c]⟩) s else .bad
 | _,_,_=>.bad
theorem Pz (hK:X.K=T.K):Hz X (lF T XE ai):=by
 intro value slice pins s σ H x y v u Q I rx ry ⟨ρ,a,b,st,sr,va,vb,ho⟩ hs
 cases a<;>cases b<;>try exact ho.elim
 ·obtain⟨hl,ho⟩:=ho.bK
  obtain⟨c,e,ho⟩:=ho.aI
  exact F_ value slice pins s σ H x y v u Q I rx ry ⟨_,_,c,va.str_inv,vb.int_inv,hl,e,ho.aW sr hJ⟩ hs
 ·obtain⟨c,e,ho⟩:=ho.aI
  obtain⟨p,vs,rfl,h1,k⟩:=va.c6
  obtain⟨z,e2,k2⟩:=k.gS e
  exact F9 value slice pins s σ H _ y v u Q I rx ry ⟨p,vs,_,z,rfl,vb.int_inv,hK ▸ h1,e2,ho.aW sr k2⟩ hs
 ·obtain⟨xs,e0,ho⟩:=ho.aI
  obtain⟨c,e,ho⟩:=ho.aI
  obtain⟨p,vs,rfl,_,h1,k⟩:=sr.dN (ay e0) va
  obtain⟨z,e2,k2⟩:=k.gS e
  exact wo value slice pins s σ H _ y v u Q I rx ry ⟨p,vs,_,z,rfl,vb.int_inv,fJ.of h1,e2,ho.aW sr k2⟩ hs
 ·obtain⟨c,e,ho⟩:=ho.aI
  obtain⟨p,vs,rfl,h1,k⟩:=va.f6
  obtain⟨z,e2,k2⟩:=k.gS e
  exact wo value slice pins s σ H _ y v u Q I rx ry ⟨p,vs,_,z,rfl,vb.int_inv,hK ▸ h1.xp,e2,ho.aW sr k2⟩ hs
abbrev Eo:=En->S->R (Option Int)
def rO:Rl (Option Int) (Option Int):=⟨λ _ _ _ a b=>a=b,λ _ h=>h⟩
abbrev tO (T:Tx)(XE:fU)(m:Eo):TO:=tG T XE rO m
def oN:Eo:=λ _ s=>.ok none s
def oS (m:Ev):Eo:=λ env s=>(m env s).bind λ v s1=>match v with
 | .int i=>.ok (some i) s1
 | _=>.bad
theorem PO.imp {e:Option Expr}{t t':TO}(h:PO X e t)(k:∀ σ H Q,t' σ H Q->t σ H Q):PO X e t':=λ pins s σ H Q I hq=>h pins s σ H Q I (k σ H Q hq)
theorem y_:PO X none (tO T XE oN):=PO.imp BG λ σ H Q ⟨ρ,env,s,hs,he,ho⟩=>ho ρ H none .refl hs rfl
theorem y9 {e:Expr}{m:Ev}(h:PE X e (tE T XE m)):PO X (some e) (tO T XE (oS m)):=
 PO.imp (BF h) λ σ H Q ⟨ρ,env,s,hs,he,ho⟩=>step hs he ho λ v s1 ρ1 H1 x _ u1 bo cS a6 aP=>by
  have a6:VR T ρ1 H1 v x:=a6
  cases v<;>try exact aP.elim
  exact⟨_,a6.int_inv,aP ρ1 H1 (some _) .refl bo rfl⟩
def de {α:Type}(xs:List α)(lo hi:Option Int):List α:=(xs.drop (HT.cP xs.length 0 lo)).take (HT.cP xs.length xs.length hi - HT.cP xs.length 0 lo)
theorem aR.de {ρ:List Addr}{H:Hp}{l:List AV}{xs:List V}(h:aR T ρ H l xs)(lo hi:Option Int):aR T ρ H (de l lo hi) (oH xs lo hi):=by
 unfold Mm.de oH
 rw[h.length]
 exact(h.drop _).take _
def BY (v:AV)(lo hi:Option Int)(s:S):R AV:=match v with
 | .tup xs=>.ok (.tup (de xs lo hi)) s
 | .ref i=>need (aq s i) λ xs=>.ok (.ref s.length) (s++[.lst (de xs lo hi)])
 | .sq xs=>.ok (.ref s.length) (s++[.lst (de xs lo hi)])
 | _=>.bad
def Ph (T:Tx)(XE:fU):V->Option Int->Option Int->Hp->VK->Prop:=λ x lo hi H Q=>∃ ρ v s,SR T ρ s H/\VR T ρ H v x/\Out T XE (rV T) ρ H (BY v lo hi s) Q
theorem CZ {xs:List V}{lo hi:Option Int}(h:HT.cP xs.length 0 lo=0/\HT.cP xs.length xs.length hi=xs.length):oH xs lo hi=xs:=by
 unfold oH
 rw[h.1,h.2,Nat.sub_zero,List.drop_zero,List.take_length]
theorem Py (hK:X.K=T.K):Hy X (Ph T XE):=by
 intro pins s σ H x v vl vu lo hi sl Q I rx hs pl pu ⟨ρ,a,st,sr,va,ho⟩
 cases a<;>try exact ho.elim
 ·obtain⟨p,vs,rfl,h1,k⟩:=va.c6
  refine Bm pins s σ H _ v vl vu lo hi sl Q I rx hs pl pu ⟨p,vs,rfl,hK ▸ h1,λ hw=>?_,λ _ q hq=>ho.tup sr hq (k.de lo hi)⟩
  have:=k.de lo hi
  rw[CZ hw]at this
  exact ho.aW sr (jK h1 this)
 ·obtain⟨xs,e0,ho⟩:=ho.aI
  obtain⟨p,vs,rfl,_,h1,k⟩:=sr.dN (ay e0) va
  exact vH pins s σ H _ v vl vu lo hi sl Q I rx hs pl pu ⟨p,vs,rfl,fJ.of h1,λ q hq=>ho.alloc sr hq (OR.lst aQ (aR.gr ((sr.dX hq).add hq).toGr (k.de lo hi)))⟩
 ·obtain⟨p,vs,rfl,h1,k⟩:=va.f6
  exact vH pins s σ H _ v vl vu lo hi sl Q I rx hs pl pu ⟨p,vs,rfl,hK ▸ h1.xp,λ q hq=>ho.alloc sr hq (OR.lst aQ (aR.gr ((sr.dX hq).add hq).toGr (k.de lo hi)))⟩
def gW (m:Ev)(lo hi:Eo):Ev:=λ env s=>(m env s).bind λ v s1=>(lo env s1).bind λ l s2=>(hi env s2).bind λ h s3=>BY v l h s3
theorem IV {e:Expr}{lo hi:Option Expr}{p2:Pos}{m:Ev}{ml mh:Eo}(hK:X.K=T.K)(he:PE X e (tE T XE m)) (hl:PO X lo (tO T XE ml)) (hh:PO X hi (tO T XE mh)):PE X (.Subscript e (.Slice lo hi none p2) pos) (tE T XE (gW m ml mh)):=
 PE.imp (sI (Py (XE:=XE) hK) he hl hh) λ σ H Q ⟨ρ,env,s,hs,he,ho⟩=>
  step hs he ho λ v s1 ρ1 H1 x _ u1 bo cS a6 aP=>step bo cS aP λ l s2 ρ2 H2 l' _ u2 hV mJ e2 c9=>step hV mJ c9 λ h s3 ρ3 H3 h' _ u3 oX Az e3 u9=>by
   cases (show l=l' from e2)
   cases (show h=h' from e3)
   exact⟨ρ3,v,s3,oX,VR.up (u2.trans u3) a6,u9⟩
end
end Mm
namespace Mm
open PySem L2
abbrev Ms:=En->S->RS
def R.dw {α:Type}:R α->(α->S->RS)->RS
 | .ok a s,f=>f a s
 | .ex c s,_=>.ex c s
 | .bad,_=>.bad
@[simp] theorem jg {α:Type}(a:α) (s:S) (f:α->S->RS):(R.ok a s).dw f=f a s:=rfl
def eV (T:Tx)(XE:fU)(ρ:List Addr)(H:Hp):RS->Ends->Prop
 | .nx e s,D=>∀ ρ' H' σ',Up ρ H ρ' H'->SR T ρ' s H'->ER T ρ' H' e σ'->D.nx σ' H'
 | .rt v s,D=>∀ ρ' H' x,Up ρ H ρ' H'->SR T ρ' s H'->VR T ρ' H' v x->D.rt x H'
 | .bk e s,D=>∀ ρ' H' σ',Up ρ H ρ' H'->SR T ρ' s H'->ER T ρ' H' e σ'->D.bk σ' H'
 | .ct e s,D=>∀ ρ' H' σ',Up ρ H ρ' H'->SR T ρ' s H'->ER T ρ' H' e σ'->D.ct σ' H'
 | .ex c s,_=>∀ ρ' H',Up ρ H ρ' H'->SR T ρ' s H'->XE c ρ' s H'
 | .bad,_=>False
theorem eV.up {T:Tx}{XE:fU}{ρ ρ':List Addr}{H H':Hp}{r:RS}{D:Ends}(u:Up ρ H ρ' H')(h:eV T XE ρ H r D):eV T XE ρ' H' r D:=by
 cases r with
 | nx e s=>exact λ ρ2 H2 x u2 sr vr=>h ρ2 H2 x (u.trans u2) sr vr
 | rt e s=>exact λ ρ2 H2 x u2 sr vr=>h ρ2 H2 x (u.trans u2) sr vr
 | bk e s=>exact λ ρ2 H2 x u2 sr vr=>h ρ2 H2 x (u.trans u2) sr vr
 | ct e s=>exact λ ρ2 H2 x u2 sr vr=>h ρ2 H2 x (u.trans u2) sr vr
 | ex c s=>exact λ ρ2 H2 u2 sr=>h ρ2 H2 (u.trans u2) sr
 | bad=>exact h
def tS (T:Tx)(XE:fU)(m:Ms):TS:=λ D σ H=>∃ ρ env s,SR T ρ s H/\ER T ρ H env σ/\eV T XE ρ H (m env s) D
section
variable {T:Tx}{XE:fU}{X:Cx}{pos:Pos}
theorem gy {α β:Type}{rl:Rl α β}{ρ:List Addr}{env:En}{s:S}{σ:St}{H:Hp}{m:En->S->R α}{k:α->S->RS}{D:Ends}{F:β->Hp->Prop}
  (hs:SR T ρ s H) (he:ER T ρ H env σ) (ho:eV T XE ρ H ((m env s).dw k) D)
  (hk:∀ v s1 ρ1 H1 x,m env s=.ok v s1->Up ρ H ρ1 H1->SR T ρ1 s1 H1->ER T ρ1 H1 env σ->rl.r H ρ1 H1 v x->eV T XE ρ1 H1 (k v s1) D->F x H1):tG T XE rl m σ H F:=by
 refine⟨ρ,env,s,hs,he,?_⟩
 cases e:m env s with
 | ok v s1=>
  rw[e]at ho
  exact λ ρ1 H1 x u sr vr=>hk v s1 ρ1 H1 x e u sr (he.up u) vr (eV.up u ho)
 | ex c s1=>rw[e]at ho;exact ho
 | bad=>rw[e]at ho;exact ho
def bH:Ms:=λ env s=>.nx env s
def au (a b:Ms):Ms:=λ env s=>match a env s with
 | .nx e s1=>b e s1
 | r=>r
theorem B9:ke X [] (tS T XE bH):=ke.imp By λ D σ H ⟨ρ,env,s,hs,he,ho⟩=>ho ρ H σ .refl hs he
theorem zx {st:Stmt}{rest:List Stmt}{a b:Ms}(h1:PS X st (tS T XE a)) (h2:ke X rest (tS T XE b)):ke X (st :: rest) (tS T XE (au a b)):=
 ke.imp (yW h1 h2) λ D σ H ⟨ρ,env,s,hs,he,ho⟩=>by
  refine⟨ρ,env,s,hs,he,?_⟩
  unfold au at ho
  cases e:a env s with
  | nx e1 s1=>rw[e]at ho;exact λ ρ2 H2 x u sr er=>⟨ρ2,e1,s1,sr,er,eV.up u ho⟩
  | rt v s1=>rw[e]at ho;exact ho
  | bk v s1=>rw[e]at ho;exact ho
  | ct v s1=>rw[e]at ho;exact ho
  | ex v s1=>rw[e]at ho;exact ho
  | bad=>rw[e]at ho;exact ho
theorem B8 {st:Stmt}{a:Ms}(h1:PS X st (tS T XE a)):ke X [st] (tS T XE a):=Bx h1
def pJ (m:Ev):Ms:=λ env s=>(m env s).dw λ _ s1=>.nx env s1
theorem Ca {e:Expr}{m:Ev}(h:PE X e (tE T XE m)) (hs:swapsWith e none pos.line X.env=pure false:=by rfl):PS X (.Expr e pos) (tS T XE (pJ m)):=
 PS.imp (BA h hs) λ D σ H ⟨ρ,env,s,hs,he,ho⟩=>gy hs he ho λ v s1 ρ1 H1 x _ u1 bo cS a6 aP=>aP ρ1 H1 σ .refl bo cS
def aU (m:Ev):Ms:=λ env s=>(m env s).dw λ v s1=>.rt v s1
theorem Fq {e:Expr}{m:Ev}(h:PE X e (tE T XE m)):PS X (.Return (some e) pos) (tS T XE (aU m)):=
 PS.imp (EG h) λ D σ H ⟨ρ,env,s,hs,he,ho⟩=>gy hs he ho λ v s1 ρ1 H1 x _ u1 bo cS a6 aP=>aP ρ1 H1 x .refl bo a6
def dU (c:Eb)(a b:Ms):Ms:=λ env s=>(c env s).dw λ k s1=>if k=true then a env s1 else b env s1
theorem IP {c:Expr}{a b:List Stmt}{AZ:Eb}{ma mb:Ms}(hc:PT X c (jn T XE AZ)) (ha:ke X a (tS T XE ma)) (hb:ke X b (tS T XE mb)):PS X (.If c a b pos) (tS T XE (dU AZ ma mb)):=
 PS.imp (Ig hc ha hb) λ D σ H ⟨ρ,env,s,hs,he,ho⟩=>gy hs he ho λ v s1 ρ1 H1 x _ u1 bo cS a6 aP=>by
  cases (show v=x from a6)
  cases v with
  | true=>exact⟨ρ1,env,s1,bo,cS,aP⟩
  | false=>exact⟨ρ1,env,s1,bo,cS,aP⟩
def aO (i:Nat)(m:Ev):Ms:=λ env s=>(m env s).dw λ v s1=>.nx (env.set i (some v)) s1
theorem AQ {i:Nat}{m:Ev}{D:Ends}{σ:St}{H:Hp}(h:tS T XE (aO i m) D σ H):Bi (tE T XE m) (wH i) D σ H:=by
 obtain⟨ρ,env,s,hs,he,ho⟩:=h
 exact gy hs he ho λ v s1 ρ1 H1 x _ u1 bo cS a6 aP=>aP ρ1 H1 _ .refl bo (cS.set a6)
theorem zy {i:Nat}{x:Str}{e:Expr}{m:Ev}{pos':Pos}(hN:X.N.Nodup)(he:PE X e (tE T XE m)) (hi:X.N[i]? = some x:=by rfl)(hx:Loc X.env.scope x:=by first|exact Or.inl rfl|exact Or.inr rfl)(hs:swapsWith e (some (.Name x pos')) pos.line X.env=pure false:=by rfl) (hf:X.fn x=true∨X.env.scope.names.lookup x=some .local:=by first|exact .inl rfl|exact .inr rfl|assumption) :
  PS X (.Assign [.Name x pos'] e pos) (tS T XE (aO i m)):=PS.imp (EF hN hi hx he hs hf) λ D σ H h=>AQ h
abbrev Mt:=AV->En->S->RS
abbrev xg:=List AV->En->S->RS
def CS (Q:St->Hp->Prop):Ends:={ nx:=Q,rt:=λ _ _=>False }
def tT (T:Tx)(XE:fU)(m:Mt):TG:=λ x σ H Q=>∃ ρ env s v,SR T ρ s H/\ER T ρ H env σ/\VR T ρ H v x/\eV T XE ρ H (m v env s) (CS Q)
def Kh (T:Tx)(XE:fU)(m:xg):C7:=λ xs σ H Q=>∃ ρ env s vs,SR T ρ s H/\ER T ρ H env σ/\aR T ρ H vs xs/\eV T XE ρ H (m vs env s) (CS Q)
def gN (i:Nat):Mt:=λ v env s=>.nx (env.set i (some v)) s
def cZ:xg:=λ vs env s=>match vs with
 | []=>.nx env s
 | _=>.bad
def aw (a:Mt)(r:xg):xg:=λ vs env s=>match vs with
 | v :: w=>match a v env s with
  | .nx e s1=>r w e s1
  | q=>q
 | _=>.bad
def gT (n:Nat)(r:xg):Mt:=λ v env s=>match v with
 | .tup vs=>if vs.length=n then r vs env s else .bad
 | _=>.bad
theorem Cj {i:Nat}{x:Str}(hN:X.N.Nodup)(hi:X.N[i]? = some x:=by rfl)(hx:Loc X.env.scope x:=by first|exact Or.inl rfl|exact Or.inr rfl)(hf:X.fn x=true∨X.env.scope.names.lookup x=some .local:=by first|exact .inl rfl|exact .inr rfl|assumption):PG X (.Name x pos) (tT T XE (gN i)):=
 PG.imp (BM hN hi hx hf) λ x σ H Q ⟨ρ,env,s,v,hs,he,vr,ho⟩=>ho ρ H _ .refl hs (he.set vr)
theorem Cg:xf X [] (Kh T XE cZ):=xf.imp BL λ xs σ H Q ⟨ρ,env,s,vs,hs,he,vr,ho⟩=>by
 cases vs with
 | nil=>exact⟨vr.nil_inv,ho ρ H _ .refl hs he⟩
 | cons a r=>exact ho.elim
theorem zE {e:Expr}{es:List Expr}{a:Mt}{r:xg}(h1:PG X e (tT T XE a)) (h2:xf X es (Kh T XE r)) (hs:(assignEach (e :: es) X.env).map (·.2)=assign e X.env :: (assignEach es X.env).map (·.2):=by rfl):xf X (e :: es) (Kh T XE (aw a r)):=
 xf.imp (zb h1 h2 hs) λ xs σ H Q ⟨ρ,env,s,vs,hs,he,vr,ho⟩=>by
  cases vs with
  | nil=>exact ho.elim
  | cons v w=>
   obtain⟨x,ys,rfl,k1,k2⟩:=vr.cons_inv
   refine⟨x,ys,rfl,ρ,env,s,v,hs,he,k1,?_⟩
   unfold aw at ho
   cases e:a v env s with
   | nx e1 s1=>simp only[e]at ho;exact λ ρ2 H2 x u sr er=>⟨ρ2,e1,s1,w,sr,er,k2.up u,eV.up u ho⟩
   | rt v s1=>simp only[e]at ho;exact ho
   | bk v s1=>simp only[e]at ho;exact λ ρ2 H2 x u sr er=>ho ρ2 H2 x u sr er
   | ct v s1=>simp only[e]at ho;exact λ ρ2 H2 x u sr er=>ho ρ2 H2 x u sr er
   | ex v s1=>simp only[e]at ho;exact ho
   | bad=>simp only[e]at ho;exact ho
theorem Fx {es:List Expr}{k:Nat}{r:xg}{n:Nat}(hK:X.K=T.K)(hc:X.calm=true)(h:xf X es (Kh T XE r)) (hn:(assignEach es X.env).length=n:=by rfl) (A1:(assignEach es X.env).findIdx? (·.1)=none:=by rfl):PG X (.Tuple es k pos) (tT T XE (gT n r)):=
 PG.imp (EM hc h hn A1) λ x σ H Q ⟨ρ,env,s,v,hs,he,vr,ho⟩=>by
  obtain⟨vs,rfl⟩:∃ vs,v=.tup vs:=by
   cases v with
   | tup vs=>exact⟨vs,rfl⟩
   | _=>exact ho.elim
  obtain⟨a,ws,rfl,h1,k1⟩:=vr.c6
  have ho:eV T XE ρ H (if vs.length=n then r vs env s else .bad) (CS Q):=ho
  by_cases hl:vs.length=n
  ·rw[if_pos hl]at ho
   exact⟨a,ws,rfl,hK ▸ h1,by rw[<-k1.length];exact hl,ρ,env,s,vs,hs,he,k1,ho⟩
  ·rw[if_neg hl]at ho;exact ho.elim
def gH (m:Ev)(g:Mt):Ms:=λ env s=>(m env s).dw λ v s1=>g v env s1
def j8 (g:Mt):Prop:=∀ v env s,(∃ e s1,g v env s=.nx e s1)∨(∃ c s1,g v env s=.ex c s1)∨g v env s=.bad
def ng (g:xg):Prop:=∀ v env s,(∃ e s1,g v env s=.nx e s1)∨(∃ c s1,g v env s=.ex c s1)∨g v env s=.bad
theorem B2 {i:Nat}:j8 (gN i):=λ v env s=>.inl ⟨_,_,rfl⟩
theorem Fi:ng cZ:=λ v env s=>by
 cases v with
 | nil=>exact .inl ⟨_,_,rfl⟩
 | cons a r=>exact .inr (.inr rfl)
theorem B3 {a:Mt}{r:xg}(h:j8 a)(k:ng r):ng (aw a r):=λ v env s=>by
 cases v with
 | nil=>exact .inr (.inr rfl)
 | cons x w=>
  rcases h x env s with⟨e,s1,q⟩|⟨e,s1,q⟩|q
  ·have:aw a r (x :: w) env s=r w e s1:=by unfold aw;simp only[q]
   rw[this];exact k w e s1
  ·have:aw a r (x :: w) env s=.ex e s1:=by unfold aw;simp only[q]
   exact .inr (.inl ⟨_,_,this⟩)
  ·have:aw a r (x :: w) env s=.bad:=by unfold aw;simp only[q]
   exact .inr (.inr this)
theorem Fh {n:Nat}{r:xg}(k:ng r):j8 (gT n r):=λ v env s=>by
 cases v<;>try exact .inr (.inr rfl)
 rename_i vs
 by_cases hl:vs.length=n
 ·have:gT n r (.tup vs) env s=r vs env s:=if_pos hl
  rw[this];exact k vs env s
 ·have:gT n r (.tup vs) env s=.bad:=if_neg hl
  exact .inr (.inr this)
theorem j8.out {g:Mt}(k:j8 g){ρ:List Addr}{H:Hp}{v:AV}{env:En}{s:S}{D:Ends}(h:eV T XE ρ H (g v env s) D):eV T XE ρ H (g v env s) (CS D.nx):=by
 rcases k v env s with⟨e,s1,q⟩|⟨e,s1,q⟩|q<;>rw[q]at h ⊢<;>exact h
theorem Fv {tg e:Expr}{m:Ev}{g:Mt}(he:PE X e (tE T XE m)) (hg:PG X tg (tT T XE g)) (Qj:j8 g)(hs:swapsWithSole [tg] e pos.line X.env=pure false:=by rfl)(hw:swappedStores [tg] e X.env=pure none:=by rfl)
  (h1:(assignEach [tg] X.env).map (·.2)=[assign tg X.env]:=by rfl):PS X (.Assign [tg] e pos) (tS T XE (gH m g)):=
 PS.imp (EJ he hg hs hw h1) λ D σ H ⟨ρ,env,s,hs,he,ho⟩=>gy hs he ho λ v s1 ρ1 H1 x _ u1 bo cS a6 aP=>⟨ρ1,env,s1,v,bo,cS,a6,Qj.out aP⟩
def fC (i j:Nat)(r:dR):Ms:=λ env s=>(r env s).dw λ vs s1=>match vs with
 | [v,w]=>.nx ((env.set i (some v)).set j (some w)) s1
 | _=>.bad
theorem Ft {i j:Nat}{x y:Str}{a b:Expr}{r:dR}{px py pt:Pos}{kt k2:Nat}{uL:Pos}(hc:X.calm=true)(hN:X.N.Nodup)(ha:PA X [a,b] (tP T XE r)) (hi:X.N[i]? = some x:=by rfl)(hj:X.N[j]? = some y:=by rfl)(tI:i≠j:=by decide)
  (hx:X.env.scope.names.lookup x=some .local:=by rfl) (hy:X.env.scope.names.lookup y=some .local:=by rfl)
  (hw:swappedStores [.Tuple [.Name x px,.Name y py] kt pt] (.Tuple [a,b] k2 uL) X.env=pure (some [x,y]):=by rfl)
  (hs:swapsWithSole [.Tuple [.Name x px,.Name y py] kt pt] (.Tuple [a,b] k2 uL) pos.line X.env=pure false:=by rfl) :
  PS X (.Assign [.Tuple [.Name x px,.Name y py] kt pt] (.Tuple [a,b] k2 uL) pos) (tS T XE (fC i j r)):=
 PS.imp (EH hc hN hi hj tI hx hy ha hw hs) λ D σ H ⟨ρ,env,s,hs,he,ho⟩=>gy hs he ho λ v s1 ρ1 H1 x _ u1 bo cS a6 aP=>by
  have a6:aR T ρ1 H1 v x:=a6
  match v,a6,aP with
  | [v,w],a6,aP=>
   obtain⟨x1,ys,rfl,k1,k2⟩:=a6.cons_inv
   obtain⟨x2,ys,rfl,k4,k3⟩:=k2.cons_inv
   cases k3.nil_inv
   exact⟨x1,x2,rfl,aP ρ1 H1 _ .refl bo ((cS.set k1).set k4)⟩
  | [],_,aP=>exact aP.elim
  | [_],_,aP=>exact aP.elim
  | _ :: _ :: _ :: _,_,aP=>exact aP.elim
def uo (c:Eb)(b:Ms):Nat->En->S->RS
 | 0,_,_=>.bad
 | n+1,env,s=>(c env s).dw λ k s1=>if k=true then (match b env s1 with
   | .nx e s2=>uo c b n e s2
   | .ct e s2=>uo c b n e s2
   | .bk e s2=>.nx e s2
   | r=>r) else .nx env s1
def xr (f:En->S->Nat)(c:Eb)(b:Ms):Ms:=λ env s=>uo c b (f env s) env s
theorem Fp {c:Expr}{body:List Stmt}{AZ:Eb}{mb:Ms}(f:En->S->Nat)(hp:PassesOwn (model X.prog X.w) X.A X.env X.xe) (hc:PT X c (jn T XE AZ)) (hb:ke X body (tS T XE mb)):PS X (.While c body [] pos) (tS T XE (xr f AZ mb)):=
 PS.imp (yX hp hc hb) λ D σ H ⟨ρ,env,s,hs,he,ho⟩=>by
  refine⟨λ n σ H=>∃ ρ env s,SR T ρ s H/\ER T ρ H env σ/\eV T XE ρ H (uo AZ mb n env s) D,⟨f env s,ρ,env,s,hs,he,ho⟩,?_⟩
  rintro n σ H ⟨ρ,env,s,hs,he,ho⟩
  cases n with
  | zero=>exact ho.elim
  | succ n=>
   unfold uo at ho
   refine gy hs he ho λ v s1 ρ1 H1 x _ u1 bo cS a6 aP=>?_
   cases (show v=x from a6)
   cases v with
   | false=>exact aP ρ1 H1 σ .refl bo cS
   | true=>
    refine⟨λ σ' H'=>∃ ρ env s,SR T ρ s H'/\ER T ρ H' env σ'/\eV T XE ρ H' (uo AZ mb n env s) D,λ σ' H' h=>⟨n,Nat.lt_succ_self n,h⟩,ρ1,env,s1,bo,cS,?_⟩
    simp only[if_pos]at aP
    cases e:mb env s1 with
    | nx e2 s2=>simp only[e]at aP;exact λ ρ2 H2 x u sr er=>⟨ρ2,e2,s2,sr,er,eV.up u aP⟩
    | ct e2 s2=>simp only[e]at aP;exact λ ρ2 H2 x u sr er=>⟨ρ2,e2,s2,sr,er,eV.up u aP⟩
    | bk e2 s2=>simp only[e]at aP;exact λ ρ2 H2 x u sr er=>aP ρ2 H2 x u sr er
    | rt v s2=>simp only[e]at aP;exact aP
    | ex v s2=>simp only[e]at aP;exact aP
    | bad=>simp only[e]at aP;exact aP
end
end Mm
namespace L2
open PySem PySem.Spec PyProof.Rows
theorem EL {X:Cx}{tg l:Expr}{tl:TE}(hl:PE X l tl):PI X tg l (λ σ H R=>tl σ H λ x H1=>∃ a,x=.ref a/\(((∃ xs,fJ X.K H1 a xs)/\R (HB X.K a) H1)∨((∃ xs,gF X.K H1 a xs)/\R (Kc X.K a) H1))):=by
 intro pins s σ H R I h
 refine bO (hl pins s σ H _ I h) λ v s1 ⟨x,H1,I1,r1,q1⟩=>?_
 obtain⟨a,e,q⟩:=q1
 subst e
 cases r1
 rcases q with⟨⟨xs,hq⟩,q⟩|⟨⟨xs,hq⟩,q⟩
 ·obtain⟨its,rv,p,hz⟩:=I1.list hq
  refine wpAny_pyIter_list p.isList ?_
  refine⟨s1.heap.objs.size,[s1.heap.objs.size],_,_,H1,rfl,I1.kept (t':=s1.toks) λ b o e=>Heap.get?_push_of_some _ e,pG a _,⟨_,Heap.get?_push_size _ rfl,rfl,rfl⟩,λ b hb=>?_,q⟩
  have e:b=s1.heap.objs.size:=by simpa using hb
  subst e
  exact I1.vf (Nat.le_refl _) (I1.bN.fresh (Nat.le_refl _))
 ·obtain⟨its,rv,p,hz⟩:=I1.tuple hq
  refine wpAny_pyIter_tuple (show s1.heap.IsTuple a its.toArray from p) ?_
  refine⟨s1.heap.objs.size,[s1.heap.objs.size],_,_,H1,rfl,I1.kept (t':=s1.toks) λ b o e=>Heap.get?_push_of_some _ e,uA a _,⟨_,Heap.get?_push_size _ rfl,rfl,rfl⟩,λ b hb=>?_,q⟩
  have e:b=s1.heap.objs.size:=by simpa using hb
  subst e
  exact I1.vf (Nat.le_refl _) (I1.bN.fresh (Nat.le_refl _))
end L2
namespace Mm
open PySem L2
theorem Up.mod {ρ ρ':List Addr}{H H':Hp}{D:Addr}{o:HO}(u:Up ρ H ρ' H')(h:H D=none)(n:D∉ρ'):Up ρ H ρ' (upd H' D o):=
 ⟨⟨u.pre,λ b xs e=>by rw[aD (bq e h)];exact u.ju b xs e,λ b p v e=>by rw[aD (bq e h)];exact u.iz b p v e⟩,λ b p e k=>⟨by rw[aD (bq e h)];exact(u.fr b p e k).1,(u.fr b p e k).2⟩,λ b e=>by
  by_cases hb:b=D
  ·rw[hb];exact h
  ·rw[aD hb]at e;exact u.live b e⟩
theorem MU {ρ:List Addr}{H:Hp}{D:Addr}{xs:List V}{o:HO}(h:H D=some (.lst xs)):Gr ρ H ρ (upd H D o):=
 ⟨List.prefix_rfl,λ b ys e=>by rw[aD (nR e h (by intro z;cases z))];exact e,λ b p v e=>by rw[aD (nR e h (by intro z;cases z))];exact e⟩
theorem ER.gr {T:Tx}{ρ ρ':List Addr}{H H':Hp}{env:En}{σ:St}(h:ER T ρ H env σ)(u:Gr ρ H ρ' H'):ER T ρ' H' env σ:=
 ⟨h.len,λ i v e=>let ⟨x,e1,q⟩:=h.get i v e;⟨x,e1,q.gr u⟩⟩
abbrev Gd:=List (Nat × List AV)
def mG (gs:Gd)(s:S):Prop:=∀ p∈gs,aq s p.1=some p.2
theorem bu (s:S):mG [] s ↔ True:=by simp[mG]
theorem m5 (i:Nat)(xs:List AV)(s:S):mG [(i,xs)] s ↔ aq s i=some xs:=by simp[mG]
structure Walks (T:Tx)(ρ:List Addr)(H:Hp)(xs:List AV)(gs:Gd)(J:It):Prop where
 turn:∀ ρ' s' H',Up ρ H ρ' H'->SR T ρ' s' H'->mG gs s'->(∀ (j:Nat) (v:AV),xs[j]? = some v->J.go j H'/\∀ x H'',J.Dd j H' x H''->Up ρ' H' ρ' H''/\SR T ρ' s' H''/\VR T ρ' H'' v x)/\J.stop xs.length H'
abbrev Src:=En->S->R (List AV × Gd)
def rW (T:Tx):Rl (List AV × Gd) It:=⟨λ _ ρ H p J=>Walks T ρ H p.1 p.2 J,λ _ h=>h⟩
abbrev tW (T:Tx)(XE:fU)(m:Src):TI:=tG T XE (rW T) m
section
variable {T:Tx}{XE:fU}{X:Cx}{pos:Pos}
theorem lB {K:PySem.W.Frag}{a:Addr}{H':Hp}{vs:List V}(h:H' a=some (.lst vs)∨DO K H' a vs) {ρ':List Addr}{s':S}{xs:List AV}(sr:SR T ρ' s' H')(k:aR T ρ' H' xs vs) :
  (∀ (j:Nat) (v:AV),xs[j]? = some v->(HB K a).go j H'/\∀ x H'',(HB K a).Dd j H' x H''->Up ρ' H' ρ' H''/\SR T ρ' s' H''/\VR T ρ' H'' v x)/\(HB K a).stop xs.length H':=by
 have hq:fJ K H' a vs:=by rcases h with h|h;exact fJ.of h;exact h.xp
 refine⟨λ j v e=>?_,⟨vs,hq,by rw[k.length];exact Nat.le_refl _⟩⟩
 obtain⟨x,ex,kx⟩:=k.get e
 refine⟨⟨vs,x,hq,ex⟩,λ y H'' ⟨e1,e2⟩=>?_⟩
 subst e1
 have:=e2 vs hq
 rw[ex]at this
 cases this
 exact⟨.refl,sr,kx⟩
theorem yy {K:PySem.W.Frag}{a:Addr}{H':Hp}{vs:List V}(hq:gF K H' a vs){ρ':List Addr}{s':S}{xs:List AV}(sr:SR T ρ' s' H')(k:aR T ρ' H' xs vs) :
  (∀ (j:Nat) (v:AV),xs[j]? = some v->(Kc K a).go j H'/\∀ x H'',(Kc K a).Dd j H' x H''->Up ρ' H' ρ' H''/\SR T ρ' s' H''/\VR T ρ' H'' v x)/\(Kc K a).stop xs.length H':=by
 refine⟨λ j v e=>?_,⟨vs,hq,by rw[k.length];exact Nat.le_refl _⟩⟩
 obtain⟨x,ex,kx⟩:=k.get e
 refine⟨⟨vs,x,hq,ex⟩,λ y H'' ⟨e1,e2⟩=>?_⟩
 subst e1
 have:=e2 vs hq
 rw[ex]at this
 cases this
 exact⟨.refl,sr,kx⟩
def xo (r:dR):Src:=λ env s=>(r env s).bind λ xs s1=>.ok (xs,[]) s1
theorem LY {tg e:Expr}{r:dR}(hK:X.K=T.K)(h:PE X e (tL T XE r)):PI X tg e (tW T XE (xo r)):=
 PI.imp (BK h) λ σ H R ⟨ρ,env,s,hs,he,ho⟩=>by
  refine⟨ρ,env,s,hs,he,?_⟩
  unfold xo at ho
  cases e:r env s with
  | bad=>rw[e]at ho;exact ho
  | ex c s1=>rw[e]at ho;exact ho
  | ok xs s1=>
   rw[e]at ho
   intro ρ1 H1 x u sr ⟨a,vs,e1,h0,h1,h2,k⟩
   subst e1
   refine⟨a,rfl,⟨vs,fJ.of h2⟩,ho ρ1 H1 _ u sr ⟨λ ρ' s' H' u' kc _=>?_⟩⟩
   rw[hK]
   exact lB (.inl (u'.fr a _ h2 h1).1) kc (k.up u')
def aV (m:Ev):Src:=λ env s=>(m env s).bind λ v s1=>match v with
 | .tup xs=>.ok (xs,[]) s1
 | .sq xs=>.ok (xs,[]) s1
 | .ref i=>need (aq s1 i) λ xs=>.ok (xs,[(i,xs)]) s1
 | _=>.bad
theorem LW {tg e:Expr}{m:Ev}(hK:X.K=T.K)(h:PE X e (tE T XE m)):PI X tg e (tW T XE (aV m)):=
 PI.imp (EL h) λ σ H R ⟨ρ,env,s,hs,he,ho⟩=>step hs he ho λ v s1 ρ1 H1 x _ u1 bo cS a6 aP=>by
  have a6:VR T ρ1 H1 v x:=a6
  cases v with
  | tup xs=>
   obtain⟨a,vs,rfl,h1,k⟩:=a6.c6
   refine⟨a,rfl,.inr ⟨⟨vs,hK ▸ h1⟩,aP ρ1 H1 _ .refl bo ⟨λ ρ' s' H' u' kc _=>?_⟩⟩⟩
   rw[hK]
   exact yy (u'.HU h1) kc (k.up u')
  | sq xs=>
   obtain⟨a,vs,rfl,h1,k⟩:=a6.f6
   refine⟨a,rfl,.inl ⟨⟨vs,hK ▸ h1.xp⟩,aP ρ1 H1 _ .refl bo ⟨λ ρ' s' H' u' kc _=>?_⟩⟩⟩
   rw[hK]
   exact lB (.inr (u'.Lr h1)) kc (k.up u')
  | ref i=>
   obtain⟨xs,e0,aP⟩:=aP.aI
   obtain⟨a,vs,rfl,ea,h1,k⟩:=bo.dN (ay e0) a6
   refine⟨a,rfl,.inl ⟨⟨vs,fJ.of h1⟩,aP ρ1 H1 _ .refl bo ⟨λ ρ' s' H' u' kc g=>?_⟩⟩⟩
   have e2:=(m5 i xs s').mp g
   obtain⟨b,ws,eb,_,h2,k2⟩:=kc.dN (ay e2) (VR.up u' a6)
   cases eb
   exact lB (.inl h2) kc k2
  | aY=>exact aP.elim
  | bl b=>exact aP.elim
  | int b=>exact aP.elim
  | str b=>exact aP.elim
def gI (lo:Int)(n:Nat):List AV:=(List.range n).map λ(i:Nat)=>AV.int (lo+i)
theorem yz {lo:Int}{n:Nat}{H':Hp}{ρ':List Addr}{s':S}(sr:SR T ρ' s' H') :
  (∀ (j:Nat) (v:AV),(gI lo n)[j]? = some v->(HA lo n).go j H'/\∀ x H'',(HA lo n).Dd j H' x H''->Up ρ' H' ρ' H''/\SR T ρ' s' H''/\VR T ρ' H'' v x)/\(HA lo n).stop (gI lo n).length H':=by
 have hl:(gI lo n).length=n:=by simp[gI]
 refine⟨λ j v e=>?_,by rw[hl];exact Nat.le_refl _⟩
 have hj:j < n:=by have:=(List.getElem?_eq_some_iff.mp e).1;rw[hl]at this;exact this
 refine⟨hj,λ y H'' ⟨e1,e2⟩=>?_⟩
 subst e1 e2
 have:(gI lo n)[j]? = some (.int (lo+j)):=by simp[gI,hj]
 rw[this]at e
 cases e
 exact⟨.refl,sr,cO⟩
def nA (r:dR):Src:=λ env s=>(r env s).bind λ vs s1=>match vs with
 | [.int j]=>if -(2 ^ 62)<=j/\j < 2 ^ 62 then .ok (gI 0 j.toNat,[]) s1 else .bad
 | [.int i,.int j]=>if -(2 ^ 62)<=i/\i < 2 ^ 62/\-(2 ^ 62)<=j/\j < 2 ^ 62 then .ok (gI i (j - i).toNat,[]) s1 else .bad
 | _=>.bad
theorem IQ {tg a:Expr}{p:Pos}{m:Ev}(hm:X.mg "range"=none)(ha:PE X a (tE T XE m)) (hg:Gl X "range":=by rfl)(hs:starEach [a] X.env=[(false,eval a X.env)]:=by rfl):PI X tg (.Call (.Name "range" p) [a] [] pos) (tW T XE (nA (aa m ah))):=
 PI.imp (xB hg hm (sL ha vW hs) hs) λ σ H R ⟨ρ,env,s,hs,he,ho⟩=>step hs he ho λ v s1 ρ1 H1 x e u1 bo cS a6 aP=>by
  have a6:aR T ρ1 H1 v x:=a6
  obtain⟨w,rfl⟩:∃ w,v=[w]:=by
   unfold aa ah at e
   cases e1:m env s with
   | ok w s2=>rw[e1]at e;cases e;exact⟨w,rfl⟩
   | ex c s2=>rw[e1]at e;cases e
   | bad=>rw[e1]at e;cases e
  obtain⟨y,ys,rfl,k1,k2⟩:=a6.cons_inv
  cases k2.nil_inv
  cases w with
  | int j=>
   obtain⟨⟨h1,h2⟩,aP⟩:=aP.bK
   cases k1.int_inv
   exact⟨j,rfl,h1,h2,aP ρ1 H1 _ .refl bo ⟨λ ρ' s' H' u' kc _=>yz kc⟩⟩
  | _=>exact aP.elim
noncomputable def forL (gU:Mt)(body:Ms)(gs:Gd):List AV->En->S->RS
 | [],env,s=>open Classical in if mG gs s then .nx env s else .bad
 | v :: r,env,s=>open Classical in if mG gs s then (match gU v env s with
   | .nx e1 s1=>(match body e1 s1 with
    | .nx e2 s2=>forL gU body gs r e2 s2
    | .ct e2 s2=>forL gU body gs r e2 s2
    | .bk e2 s2=>.nx e2 s2
    | q=>q)
   | .ex c s1=>.ex c s1
   | _=>.bad) else .bad
noncomputable def lD (src:Src)(gU:Mt)(body:Ms):Ms:=λ env s=>(src env s).dw λ p s1=>forL gU body p.2 p.1 env s1
theorem eV.bK {ρ:List Addr}{H:Hp}{c:Prop}{_:Decidable c}{r:RS}{D:Ends}(h:eV T XE ρ H (if c then r else .bad) D):c/\eV T XE ρ H r D:=by
 by_cases hc:c
 ·rw[if_pos hc]at h;exact⟨hc,h⟩
 ·rw[if_neg hc]at h;exact h.elim
theorem Fu {tg iter:Expr}{body:List Stmt}{src:Src}{gU:Mt}{mb:Ms}(hp:PassesOwn (model X.prog X.w) X.A X.env X.xe) (hc:X.calm=true)(hi:PI X tg iter (tW T XE src)) (hg:PG X tg (tT T XE gU)) (hb:ke X body (tS T XE mb))
  (hs:∀ x,foldedSetIterable iter X.env x=pure x:=by intro _;rfl):PS X (.For tg iter body [] pos) (tS T XE (lD src gU mb)):=
 PS.imp (EI hp hc hi hg hb hs) λ D σ H ⟨ρ,env,s,hs,he,ho⟩=>gy hs he ho λ p s1 ρ1 H1 J _ u1 bo cS wk aP=>by
  obtain⟨xs,gs⟩:=p
  have wk:Walks T ρ1 H1 xs gs J:=wk
  refine⟨λ i m σ' H'=>m=xs.length - i/\i<=xs.length/\∃ ρ' iC s',Up ρ1 H1 ρ' H'/\SR T ρ' s' H'/\ER T ρ' H' iC σ'/\eV T XE ρ' H' (forL gU mb gs (xs.drop i) iC s') D,⟨_,rfl,Nat.zero_le _,ρ1,env,s1,.refl,bo,cS,aP⟩,?_⟩
  rintro i m σ' H' ⟨rfl,hi,ρ',iC,s',u',kc,KJ,cz⟩
  by_cases qX:i < xs.length
  ·rw[List.drop_eq_getElem_cons qX]at cz
   unfold forL at cz
   obtain⟨Gs,cz⟩:=cz.bK
   obtain⟨w1,w2⟩:=(wk.turn ρ' s' H' u' kc Gs).1 i xs[i] (List.getElem?_eq_getElem qX)
   refine .inr ⟨w1,λ σ2 H2=>∃ ρ2 JX s2,Up ρ1 H1 ρ2 H2/\SR T ρ2 s2 H2/\ER T ρ2 H2 JX σ2/\eV T XE ρ2 H2 (forL gU mb gs (xs.drop (i+1)) JX s2) D,λ σ2 H2 h2=>⟨xs.length - (i+1),by omega,rfl,qX,h2⟩,λ x H'' hy=>?_⟩
   obtain⟨y1,y2,y3⟩:=w2 x H'' hy
   refine⟨ρ',iC,s',xs[i],y2,KJ.up y1,y3,?_⟩
   have cz:=eV.up y1 cz
   cases et:gU xs[i] iC s' with
   | nx e1 s1=>
    simp only[et]at cz
    refine λ ρ2 H2 σ2 u2 hV mJ=>⟨ρ2,e1,s1,hV,mJ,?_⟩
    have cz:=eV.up u2 cz
    have NK:Up ρ1 H1 ρ2 H2:=(u'.trans y1).trans u2
    cases eb:mb e1 s1 with
    | nx e2 s2=>simp only[eb]at cz;exact λ ρ3 H3 σ3 u3 oX Az=>⟨ρ3,e2,s2,NK.trans u3,oX,Az,eV.up u3 cz⟩
    | ct e2 s2=>simp only[eb]at cz;exact λ ρ3 H3 σ3 u3 oX Az=>⟨ρ3,e2,s2,NK.trans u3,oX,Az,eV.up u3 cz⟩
    | bk e2 s2=>simp only[eb]at cz;exact λ ρ3 H3 σ3 u3 oX Az=>cz ρ3 H3 σ3 u3 oX Az
    | rt v s2=>simp only[eb]at cz;exact cz
    | ex v s2=>simp only[eb]at cz;exact cz
    | bad=>simp only[eb]at cz;exact cz
   | ex c s1=>simp only[et]at cz;exact cz
   | rt v s2=>simp only[et]at cz;exact cz.elim
   | bk v s2=>simp only[et]at cz;exact cz.elim
   | ct v s2=>simp only[et]at cz;exact cz.elim
   | bad=>simp only[et]at cz;exact cz.elim
  ·have e:i=xs.length:=by omega
   subst e
   rw[List.drop_length]at cz
   unfold forL at cz
   obtain⟨Gs,cz⟩:=cz.bK
   exact .inl ⟨(wk.turn ρ' s' H' u' kc Gs).2,cz ρ' H' σ' .refl kc KJ⟩
abbrev Lc:=List (Str × Option Nat)
def hU (l:Lc)(env:En):En:=l.map λ p=>p.2.bind λ j=>(env[j]?).join
theorem ER.src {ρ:List Addr}{H:Hp}{env:En}{σ:St}(h:ER T ρ H env σ)(l:Lc):ER T ρ H (hU l env) (uI l σ):=by
 refine⟨by simp[hU,uI],λ i v e=>?_⟩
 unfold hU at e
 unfold uI
 rw[List.getElem?_map]at e ⊢
 cases el:l[i]? with
 | none=>rw[el]at e;cases e
 | some p=>
  rw[el]at e
  obtain⟨n,o⟩:=p
  cases o with
  | none=>cases e
  | some j=>
   have e:some ((env[j]?).join)=some (some v):=e
   have e':env[j]? = some (some v):=by
    cases ej:env[j]? with
    | none=>rw[ej]at e;cases e
    | some q=>rw[ej]at e;cases e;rfl
   obtain⟨x,ex,k⟩:=h.get j v e'
   exact⟨x,by show some ((σ[j]?).join)=_;rw[ex];rfl,k⟩
def rX:fU:=λ _ _ _ _=>False
def R.calm {α:Type}:R α->R α
 | .ex _ _=>.bad
 | r=>r
@[simp] theorem wY {α:Type}(a:α) (s:S):(R.ok a s).calm=.ok a s:=rfl
@[simp] theorem uc {α:Type}:(R.bad:R α).calm=.bad:=rfl
def bE:Eb:=λ _ s=>.ok true s
noncomputable def dQ (gU:Mt)(test:Eb)(elt:Ev)(gs:Gd):List AV->En->S->List AV->R (List AV)
 | [],env,s,acc=>open Classical in if mG gs s then .ok acc s else .bad
 | v :: r,env,s,acc=>open Classical in if mG gs s then (match gU v env s with
   | .nx e1 s1=>(test e1 s1).calm.bind λ b s2=>if b=true then (elt e1 s2).calm.bind λ x s3=>dQ gU test elt gs r e1 s3 (acc++[x]) else dQ gU test elt gs r e1 s2 acc
   | _=>.bad) else .bad
noncomputable def aK (l:Lc)(src:Src)(gU:Mt)(test:Eb)(elt:Ev):dR:=λ env s=>(src env s).bind λ p s1=>if p.1.length<=sizeLine then dQ gU test elt p.2 p.1 (hU l env) s1 [] else .bad
theorem y':DQ X [] (jn T XE bE):=λ pins s σ H Q I ⟨ρ,env,st,hs,he,ho⟩=>BI pins s σ H Q I (tJ ho hs)
theorem wW {l:Lc}{src:Src}{gU:Mt}{test:Eb}{elt:Ev}{σ:St}{H:Hp}{Q:VK}(h:tL T XE (aK l src gU test elt) σ H Q):yF l (tW T XE src) (tT T rX gU) (jn T rX test) (tE T rX elt) σ H Q:=by
 obtain⟨ρ,env,s,hs,he,ho⟩:=h
 refine⟨ρ,env,s,hs,he,?_⟩
 unfold aK at ho
 cases e:src env s with
 | bad=>rw[e]at ho;exact ho
 | ex c s1=>rw[e]at ho;exact ho
 | ok p s1=>
  rw[e]at ho
  obtain⟨xs,gs⟩:=p
  obtain⟨hlen,ho⟩:=ho.bK
  have hlen:xs.length<=sizeLine:=hlen
  intro ρ1 H1 J u1 bo wk D hD
  have wk:Walks T ρ1 H1 xs gs J:=wk
  have nD:D∉ρ1:=bo.out hD
  refine⟨λ i m ys σ' H'=>m=xs.length - i/\i<=xs.length/\ys.length<=i/\∃ ρ' iC s' acc,Up ρ1 H1 ρ' H'/\SR T ρ' s' H'/\ER T ρ' H' iC σ'/\H' D=some (.lst ys)/\D∉ρ'/\aR T ρ' H' acc ys/\Out T XE (rL T) ρ H (dQ gU test elt gs (xs.drop i) iC s' acc) Q,
   ⟨_,rfl,Nat.zero_le _,Nat.le_refl _,ρ1,hU l env,s1,[],bo.dX hD,bo.new hD,((he.up u1).up (bo.dX hD)).src l,aQ,nD,.nil,ho⟩,?_⟩
  rintro i m ys σ' H' ⟨rfl,hi,hy,ρ',iC,s',acc,u',kc,KJ,hd,NY,ka,cz⟩
  by_cases qX:i < xs.length
  ·rw[List.drop_eq_getElem_cons qX]at cz
   unfold dQ at cz
   obtain⟨Gs,cz⟩:=cz.bK
   obtain⟨w1,w2⟩:=(wk.turn ρ' s' H' u' kc Gs).1 i xs[i] (List.getElem?_eq_getElem qX)
   refine .inr ⟨w1,λ x H'' P5=>?_⟩
   obtain⟨y1,y2,y3⟩:=w2 x H'' P5
   refine⟨ρ',iC,s',xs[i],y2,KJ.up y1,y3,?_⟩
   have Oo:=y1.fr D _ hd NY
   have PX:=ka.up y1
   cases et:gU xs[i] iC s' with
   | nx e1 s2=>
    simp only[et]at cz
    refine λ ρ2 H2 σ2 u2 hV mJ=>⟨ρ2,e1,s2,hV,mJ,?_⟩
    have hd2:=u2.fr D _ Oo.1 Oo.2
    have PV:=PX.up u2
    cases eb:test e1 s2 with
    | bad=>simp only[eb,uc,lh]at cz;exact cz.elim
    | ex c s3=>simp only[eb,R.calm,lh]at cz;exact cz.elim
    | ok b s3=>
     simp only[eb,wY,dz]at cz
     intro ρ3 H3 b' u3 oX Q6
     cases (show b=b' from Q6)
     have KA:=u3.fr D _ hd2.1 hd2.2
     have N6:=PV.up u3
     have NJ:Up ρ1 H1 ρ3 H3:=((u'.trans y1).trans u2).trans u3
     cases b with
     | false=>
      rw[if_neg (by decide)]at cz ⊢
      exact⟨xs.length - (i+1),by omega,rfl,qX,by omega,ρ3,e1,s3,acc,NJ,oX,mJ.up u3,KA.1,KA.2,N6,cz⟩
     | true=>
      rw[if_pos rfl]at cz ⊢
      refine⟨ρ3,e1,s3,oX,mJ.up u3,?_⟩
      cases ev:elt e1 s3 with
      | bad=>simp only[ev,uc,lh]at cz;exact cz.elim
      | ex c s4=>simp only[ev,R.calm,lh]at cz;exact cz.elim
      | ok v s4=>
       simp only[ev,wY,dz]at cz
       intro ρ4 H4 x4 u4 Lp KW
       have JD:=u4.fr D _ KA.1 KA.2
       have PU:=N6.up u4
       have g5:Gr ρ4 H4 ρ4 (upd H4 D (.lst (ys++[x4]))):=MU JD.1
       refine⟨JD.1,by omega,xs.length - (i+1),by omega,rfl,qX,by rw[List.length_append];exact Nat.succ_le_succ hy,ρ4,e1,s4,acc++[v],(NJ.trans u4).mod hD JD.2,Lp.up g5 λ a ha=>aD λ z=>JD.2 (z ▸ ha),((mJ.up u3).up u4).gr g5,aQ,JD.2,(PU.append (.one KW)).gr g5,cz⟩
   | ex c s1=>simp only[et]at cz;exact cz.elim
   | rt v s2=>simp only[et]at cz;exact cz.elim
   | bk v s2=>simp only[et]at cz;exact cz.elim
   | ct v s2=>simp only[et]at cz;exact cz.elim
   | bad=>simp only[et]at cz;exact cz.elim
  ·have e:i=xs.length:=by omega
   subst e
   rw[List.drop_length]at cz
   unfold dQ at cz
   obtain⟨Gs,cz⟩:=cz.bK
   exact .inl ⟨(wk.turn ρ' s' H' u' kc Gs).2,cz ρ' H' (.ref D) (u1.trans u') kc ⟨D,ys,rfl,u1.live D hD,NY,hd,ka⟩⟩
theorem Ce {elt tg iter:Expr}{ifs:List Expr}{scope:Scope}{src:Src}{gU:Mt}{test:Eb}{me:Ev}(l:Lc)(oh:dS X scope l)(iH:X.calm=true)(hi:PI X tg iter (tW T XE src))
  (hg:∀ cl C fp s3 H3,PG (bD X l scope cl C fp s3 H3) tg (tT T rX gU)) (ht:∀ cl C fp s3 H3,DQ (bD X l scope cl C fp s3 H3) ifs (jn T rX test)) (he:∀ cl C fp s3 H3,PE (bD X l scope cl C fp s3 H3) elt (tE T rX me))
  (hs:∀ x,foldedSetIterable iter X.env x=pure x:=by intro _;rfl):PE X (.ListComp elt [⟨tg,iter,ifs,0⟩] scope pos) (tL T XE (aK l src gU test me)):=
 PE.imp (BQ l oh iH hi hg ht he hs) λ _ _ _ h=>wW h
theorem Fo {r:dR}{σ:St}{H:Hp}{Q:VK}(h:tE T XE (aF r) σ H Q):tL T XE r σ H Q:=by
 obtain⟨ρ,env,s,hs,he,ho⟩:=h
 refine⟨ρ,env,s,hs,he,?_⟩
 unfold aF at ho
 cases e:r env s with
 | bad=>rw[e]at ho;exact ho
 | ex c s1=>rw[e]at ho;exact ho
 | ok vs s1=>
  rw[e]at ho
  intro ρ1 H1 x u sr ⟨a,ws,e1,h0,h1,h2,k⟩
  subst e1
  have g:Gr ρ1 H1 (ρ1++[a]) H1:=⟨List.prefix_append _ _,λ _ _ z=>z,λ _ _ _ z=>z⟩
  refine ho (ρ1++[a]) H1 (.ref a) (u.add h0) (sr.add h1 (OR.lst h2 (k.gr g))) (ni (T:=T) (H:=H1) ?_)
  rw[List.getElem?_append_right (by rw[sr.len];exact Nat.le_refl _),sr.len,Nat.sub_self];rfl
theorem uU {i:Nat}{y:Str}{py yJ:Pos}{elt tg iter:Expr}{ifs:List Expr}{scope:Scope}{src:Src}{gU:Mt}{test:Eb}{me:Ev}(l:Lc)(oh:dS X scope l)(iH:X.calm=true)(hN:X.N.Nodup)(hi:PI X tg iter (tW T XE src))
  (hg:∀ cl C fp s3 H3,PG (bD X l scope cl C fp s3 H3) tg (tT T rX gU)) (ht:∀ cl C fp s3 H3,DQ (bD X l scope cl C fp s3 H3) ifs (jn T rX test)) (he:∀ cl C fp s3 H3,PE (bD X l scope cl C fp s3 H3) elt (tE T rX me))
  (hy:X.N[i]? = some y:=by rfl) (hx:X.env.scope.names.lookup y=some .local:=by rfl)
  (Mk:swapsWith (.ListComp elt [⟨tg,iter,ifs,0⟩] scope pos) (some (.Name y py)) yJ.line X.env=pure true:=by rfl)
  (hs:∀ x,foldedSetIterable iter X.env x=pure x:=by intro _;rfl) :
  PS X (.Assign [.Name y py] (.ListComp elt [⟨tg,iter,ifs,0⟩] scope pos) yJ) (tS T XE (aO i (aF (aK l src gU test me)))):=
 PS.imp (uM l oh iH hN hy hx hi hg ht he Mk hs) λ D σ H h=>wW (Fo (AQ h))
def gh (n:Nat)(body:Ms):List AV->S->R AV:=λ args s=>match body (args.map some++List.replicate (n - args.length) none) s with
 | .rt v s1=>.ok v s1
 | .nx _ s1=>.ok .aY s1
 | .ex c s1=>.ex c s1
 | _=>.bad
def oY (T:Tx)(n:Nat)(F:List AV->S->R AV):Sp:=λ vs H Q _=>vs.length=n/\∃ ρ s args,SR T ρ s H/\aR T ρ H args vs/\Out T rX (rV T) ρ H (F args s) Q
theorem Ay {ρ:List Addr}{H:Hp}{args:List AV}{vs:List V}(N:List Str)(k:aR T ρ H args vs):ER T ρ H (args.map some++List.replicate (N.length - args.length) none) (L2.start N vs):=by
 refine⟨by simp[L2.start,k.length],λ i v e=>?_⟩
 unfold L2.start
 have hi:i < args.length:=by
  by_cases hi:i < args.length
  ·exact hi
  ·rw[List.getElem?_append_right (by simpa using hi),List.getElem?_replicate]at e
   split at e<;>cases e
 rw[List.getElem?_append_left (by simpa using hi),List.getElem?_map]at e
 cases ea:args[i]? with
 | none=>rw[ea]at e;cases e
 | some w=>
  rw[ea]at e;cases e
  obtain⟨x,ex,q⟩:=k.get ea
  exact⟨x,by rw[List.getElem?_append_left (by simpa[<-k.length]using hi),List.getElem?_map,ex];rfl,q⟩
theorem DG {P:Program}{w:World}{mg:Str->Option Value}{base:Heap}{x qual:Str}{st:Stmt}{f:Addr}{fd:FuncData}{N ps:List Str}{k:Nat}{body:Ms}(F:A5 T.K x qual st f fd)(S:jt N ps (bJ st))
  (hb:∀ (gR:Value) (A:Around) (outer:List Env) (s:Shared) (H:Hp) (E:XK),fK k (A.deeper (PyProof.Rows.envOfC qual (bJ st) s.heap.objs.size f gR))->ke (ua vv P w T.K mg base N qual (bJ st) f gR A outer s H E).Hk (eZ st) (tS T rX body)) :
  j_ P w T.K mg base vv (k+1) f fd ps (oY T ps.length (gh N.length body)):=
 F.ok S (λ vs H Q E h=>h.1) λ gR A outer s H vs Q E hr ⟨hl,ρ,eK,args,sr,va,ho⟩=>by
  refine⟨_,hb gR A outer s H E hr,ρ,_,eK,sr,Ay N va,?_⟩
  unfold gh at ho
  cases e:body (args.map some++List.replicate (N.length - args.length) none) eK with
  | nx e1 s1=>simp only[e]at ho;exact λ ρ2 H2 σ2 u sr er=>ho ρ2 H2 .aY u sr (ux (T:=T) (ρ:=ρ2) (H:=H2))
  | rt v s1=>simp only[e]at ho;exact ho
  | ex c s1=>simp only[e]at ho;exact ho
  | bk v s1=>simp only[e]at ho;exact ho.elim
  | ct v s1=>simp only[e]at ho;exact ho.elim
  | bad=>simp only[e]at ho;exact ho.elim
def aj (n:Nat)(F:List AV->S->R AV)(r:dR):Ev:=λ env s=>(r env s).bind λ vs s1=>if vs.length=n then F vs s1 else .bad
theorem call_of {n:Nat}{F:List AV->S->R AV}{r:dR}{σ:St}{H:Hp}{Q:VK}(h:tE T rX (aj n F r) σ H Q):Di (oY T n F) [] E0 (tP T rX r) σ H Q:=by
 obtain⟨ρ,env,s,hs,he,ho⟩:=h
 refine step hs he ho λ vs s1 ρ1 H1 xs _ u1 bo cS a6 aP=>?_
 obtain⟨hl,aP⟩:=aP.bK
 have a6:aR T ρ1 H1 vs xs:=a6
 rw[List.append_nil]
 exact⟨by rw[<-a6.length];exact hl,ρ1,s1,vs,bo,a6,aP⟩
theorem Cq {k n:Nat}{f:Addr}{fd:FuncData}{ps:List Str}{Fn:List AV->S->R AV}{x:Str}{p:Pos}{e:Expr}{es:List Expr}{r:dR}(hK:X.K=T.K)(G:j_ X.prog X.w T.K X.mg X.base vv k f fd ps (oY T n Fn)) (hr:fK k X.A)(hm:X.mg x=some (.ref f)) (hk:PySem.W.keepIn T.K (.ref f)=true) (hb:Binds T.K fd ps [])
  (ha:PA X (e :: es) (tP T rX r)) (hg:Gl X x:=by rfl) (q_:(x == ("__debug__":Str))=false:=by decide) (he:starEach (e :: es) X.env=(false,eval e X.env) :: starEach es X.env:=by rfl) (i':(backTo pos (starEach es X.env)).any (·.1)=false:=by rfl) :
  PE X (.Call (.Name x p) (e :: es) [] pos) (tE T rX (aj n Fn r)):=
 PE.imp (BS (E:=E0) (by rw[hK];exact G) hr hg hm (by rw[hK];exact hk) (by rw[hK];exact hb) .nil Ip ha q_ he i') λ _ _ _ h=>call_of h
end
end Mm
namespace Ro
open PySem L2
def jX (top below:Int):Int:=if below < 0 then -((Int.gcd top below:Nat):Int) else ((Int.gcd top below:Nat):Int)
def fr (top below:Int):Int × Int:=(top.fdiv (jX top below),below.fdiv (jX top below))
theorem eW {t b:Int}(h:b≠0):0 < Int.gcd t b:=Int.gcd_pos_of_ne_zero_right t h
theorem GC {t b:Int}(h:b≠0):jX t b≠0:=by
 have:=eW (t:=t) h
 unfold jX
 split<;>omega
theorem vc (t b:Int):(jX t b).natAbs=Int.gcd t b:=by
 unfold jX
 split<;>omega
theorem xW (t b:Int):jX t b ∣ t:=by
 unfold jX
 split
 ·exact(Int.neg_dvd).mpr (Int.gcd_dvd_left ..)
 ·exact Int.gcd_dvd_left ..
theorem xV (t b:Int):jX t b ∣ b:=by
 unfold jX
 split
 ·exact(Int.neg_dvd).mpr (Int.gcd_dvd_right ..)
 ·exact Int.gcd_dvd_right ..
theorem aZ {a g:Int}(h:g ∣ a):a.fdiv g * g=a:=Int.fdiv_mul_cancel h
theorem AD {x y v:Int}(h:y ∣ x * v)(h2:Int.gcd x y=1):y ∣ v:=by
 have h1:y.natAbs ∣ x.natAbs * v.natAbs:=by rw[<-Int.natAbs_mul];exact Int.natAbs_dvd_natAbs.mpr h
 have hc:Nat.Coprime y.natAbs x.natAbs:=by
  show Nat.gcd y.natAbs x.natAbs=1
  rw[Nat.gcd_comm]
  exact h2
 exact Int.natAbs_dvd_natAbs.mp (hc.dvd_of_dvd_mul_left h1)
theorem GH (t b:Int):(fr t b).1 * jX t b=t:=aZ (xW t b)
theorem CN (t b:Int):(fr t b).2 * jX t b=b:=aZ (xV t b)
theorem As (t b:Int)(h:b≠0):(fr t b).1 * b=t * (fr t b).2:=by
 have h1:=GH t b
 have h2:=CN t b
 generalize (fr t b).1=x at *
 generalize (fr t b).2=y at *
 generalize jX t b=g at *
 subst h1
 rw[<-h2]
 rw[Int.mul_comm y g,<-Int.mul_assoc,Int.mul_right_comm]
theorem GG (t b:Int)(h:b≠0):1<=(fr t b).2:=by
 have h2:=CN t b
 have hg:=eW (t:=t) h
 have hb:(jX t b < 0/\b < 0)∨(0 < jX t b/\0 < b):=by
  unfold jX
  split
  ·left;omega
  ·right;omega
 generalize (fr t b).2=y at *
 generalize jX t b=g at *
 rcases hb with⟨h3,h4⟩|⟨h3,h4⟩
 ·refine Int.not_lt.mp λ hy=>?_
  have:0<=y * g:=Int.mul_nonneg_of_nonpos_of_nonpos (by omega) (by omega)
  omega
 ·refine Int.not_lt.mp λ hy=>?_
  have:y * g<=0:=Int.mul_nonpos_of_nonpos_of_nonneg (by omega) (by omega)
  omega
theorem GI (t b:Int)(h:b≠0):Int.gcd (fr t b).1 (fr t b).2=1:=by
 have h1:=GH t b
 have h2:=CN t b
 have hg:=eW (t:=t) h
 have hn:=vc t b
 have e:Int.gcd ((fr t b).1 * jX t b) ((fr t b).2 * jX t b)=Int.gcd (fr t b).1 (fr t b).2 * (jX t b).natAbs:=Int.gcd_mul_right ..
 rw[h1,h2,hn]at e
 have:1 * Int.gcd t b=Int.gcd (fr t b).1 (fr t b).2 * Int.gcd t b:=by rw[Nat.one_mul];exact e
 exact(Nat.eq_of_mul_eq_mul_right hg this).symm
theorem rm {x y t b:Int}(hb:b≠0)(h1:1<=y)(h2:Int.gcd x y=1)(h3:x * b=t * y):fr t b=(x,y):=by
 have k1:=GG t b hb
 have k2:=GI t b hb
 have k3:=As t b hb
 have e:x * (fr t b).2=(fr t b).1 * y:=by
  refine Int.eq_of_mul_eq_mul_right hb ?_
  have e1:x * (fr t b).2 * b=x * b * (fr t b).2:=Int.mul_right_comm ..
  have e2:(fr t b).1 * y * b=(fr t b).1 * b * y:=Int.mul_right_comm ..
  rw[e1,e2,h3,k3,Int.mul_right_comm]
 generalize hx:(fr t b).1=u at *
 generalize hy:(fr t b).2=v at *
 have d1:y ∣ v:=by
  have:y ∣ x * v:=⟨u,by rw[e,Int.mul_comm]⟩
  exact AD this h2
 have d2:v ∣ y:=by
  have:v ∣ u * y:=⟨x,by rw[<-e,Int.mul_comm]⟩
  exact AD this k2
 have ev:v=y:=Int.dvd_antisymm (by omega) (by omega) d2 d1
 have eu:u=x:=by
  rw[ev]at e
  exact(Int.eq_of_mul_eq_mul_right (by omega) e).symm
 rw[show fr t b=(u,v) from by rw[<-hx,<-hy],eu,ev]
def low (top below:Int):Int × Int:=
 (((if below < 0 then -1 else 1) * top).fdiv ((Int.gcd top below:Nat):Int),((if below < 0 then -1 else 1) * below).fdiv ((Int.gcd top below:Nat):Int))
theorem FP (t b:Int)(hb:b≠0):low t b=fr t b:=by
 unfold low fr jX
 by_cases h:b < 0
 ·rw[if_pos h,if_pos h]
  have hg:=eW (t:=t) hb
  have key:∀ a:Int,((Int.gcd t b:Nat):Int) ∣ a->(-1 * a).fdiv ((Int.gcd t b:Nat):Int)=a.fdiv (-((Int.gcd t b:Nat):Int)):=by
   intro a ⟨c,hc⟩
   rw[hc]
   have e1:(-1 * (((Int.gcd t b:Nat):Int) * c))=(-c) * ((Int.gcd t b:Nat):Int):=by
    rw[Int.neg_mul,Int.one_mul,Int.mul_comm,Int.neg_mul]
   have e2:(((Int.gcd t b:Nat):Int) * c)=(-c) * (-((Int.gcd t b:Nat):Int)):=by
    rw[Int.neg_mul_neg,Int.mul_comm]
   rw[e1,Int.mul_fdiv_cancel _ (by omega),e2,Int.mul_fdiv_cancel _ (by omega)]
  rw[key t (Int.gcd_dvd_left ..),key b (Int.gcd_dvd_right ..)]
 ·rw[if_neg h,if_neg h,Int.one_mul,Int.one_mul]
end Ro
namespace Ro
open PySem L2
theorem boot_abs:bootBuiltins "abs"=some (.builtin "abs"):=by decide +kernel
theorem boot_divmod:bootBuiltins "divmod"=some (.builtin "divmod"):=by decide +kernel
theorem boot_list:bootBuiltins "list"=some (.type "list"):=by decide +kernel
theorem boot_tuple:bootBuiltins "tuple"=some (.type "tuple"):=by decide +kernel
theorem boot_int:bootBuiltins "int"=some (.type "int"):=by decide +kernel
theorem boot_bool:bootBuiltins "bool"=some (.type "bool"):=by decide +kernel
theorem boot_str:bootBuiltins "str"=some (.type "str"):=by decide +kernel
theorem boot_isinstance:bootBuiltins "isinstance"=some (.builtin "isinstance"):=by decide +kernel
theorem boot_all:bootBuiltins "all"=some (.builtin "all"):=by decide +kernel
theorem PR:¬ (("cells":Str)="turn"):=by decide +kernel
theorem LJ:(10:Int) ^ (18:Int).toNat=1000000000000000000:=by decide +kernel
end Ro
namespace L2
open PySem PySem.Spec PyProof.Rows
def Hd (K:PySem.W.Frag)(H:Hp)(x:V)(t:String):Prop:=match x with
 | .aY=>t="NoneType"
 | .bl _=>t="bool"
 | .int _=>t="int"
 | .str _=>t="str"
 | .ref a=>(t="tuple"/\∃ xs,gF K H a xs)∨(t="list"/\∃ xs,fJ K H a xs)∨(t="dict"/\((∃ kvs,H a=some (.dK kvs))∨∃ kvs,H a=some (.dT kvs)))
 | _=>False
def LF (K:PySem.W.Frag):List V->Hp->VK->Prop:=λ xs H Q=>∃ (t:String) (x:V) (n:String) (b:Bool),xs=[x,.ty n]/\Hd K H x t/\PySem.W.kitOne K (.type t) (.type n)=some b/\Q (.bl b) H
theorem AK {X:Cx}:cg X (.builtin "isinstance") (LF X.K):=by
 intro pins s σ H xs us Q I r h
 obtain⟨t,x,n,b,rfl,hd,e,q⟩:=h
 obtain⟨u,w',rfl,ru,sE⟩:=vals2 r
 obtain rfl:w'=Value.type n:=sE
 have fin:∀ tk,EP X pins σ Q (.bool b) { s with toks:=tk }:=λ tk=>⟨.bl b,H,I.tok tk,rfl,q⟩
 cases x with
 | aY=>cases (show t=_ from hd);exact js I ru .aY e fin
 | bl y=>cases (show t=_ from hd);exact js I ru (.bl y) e fin
 | int y=>cases (show t=_ from hd);exact js I ru (.int y) e fin
 | str y=>cases (show t=_ from hd);exact js I ru (.str y) e fin
 | ref a=>
  cases ru
  rcases hd with⟨rfl,ys,q1⟩|⟨rfl,ys,q1⟩|⟨rfl,hk⟩
  ·obtain⟨its,_,p,_⟩:=I.tuple q1
   obtain⟨o,h1,h2,_⟩:=p
   exact PySem.W.kia_one PySem.W.kitx_tuple I.lQ ⟨o,h1,h2⟩ e (λ z=>nomatch z) fin
  ·obtain⟨its,_,p,_⟩:=I.list q1
   obtain⟨o,h1,h2,_⟩:=p.isList
   exact PySem.W.kia_one PySem.W.kitx_list I.lQ ⟨o,h1,h2⟩ e (λ z=>nomatch z) fin
  ·have z:∃ o,s.heap.get? a=some o/\o.ExactDict:=by
    rcases hk with⟨kvs,hk⟩|⟨kvs,hk⟩
    ·obtain⟨_,_,_,_,o,_,_,e,ex,_⟩:=I.bN a _ hk
     exact⟨o,e,ex⟩
    ·obtain⟨_,_,_,_,o,_,_,e,ex,_⟩:=I.bN a _ hk
     exact⟨o,e,ex⟩
   obtain⟨o,h1,h2⟩:=z
   exact PySem.W.kia_one PySem.W.kitx_dict I.lQ ⟨o,h1,h2.1⟩ e (λ z=>nomatch z) fin
 | vn y=>exact False.elim hd
 | DH y=>exact False.elim hd
 | ty y=>exact False.elim hd
end L2
namespace Mm
open PySem L2
section
variable {T:Tx}{XE:fU}{X:Cx}{pos:Pos}
def Bs (T:Tx)(XE:fU)(op:List AV->S->R AV):List V->Hp->VK->Prop:=λ vs H Q=>∃ ρ args s,SR T ρ s H/\aR T ρ H args vs/\Out T XE (rV T) ρ H (op args s) Q
def Km {α:Type}(T:Tx)(XE:fU)(rl:Rl α V)(op:List AV->S->R α):List V->Hp->VK->Prop:=λ vs H Q=>∃ a ws ρ xs s,vs=[.ref a]/\SR T ρ s H/\(fJ T.K H a ws∨gF T.K H a ws)/\aR T ρ H xs ws/\Out T XE rl ρ H (op xs s) Q
def gp (op:List AV->S->R AV)(r:dR):Ev:=λ env s=>(r env s).bind op
def dm {α:Type}(op:List AV->S->R α)(r:dR):En->S->R α:=λ env s=>(r env s).bind op
theorem DM {op:List AV->S->R AV}{r:dR}{σ:St}{H:Hp}{Q:VK}(h:tE T XE (gp op r) σ H Q):HN (Bs T XE op) (tP T XE r) σ H Q:=by
 obtain⟨ρ,env,s,hs,he,ho⟩:=h
 exact step hs he ho λ v s1 ρ1 H1 x _ u1 bo cS a6 aP=>⟨ρ1,v,s1,bo,a6,aP⟩
theorem J2 {α:Type}{rl:Rl α V}{op:List AV->S->R α}{r:dR}{σ:St}{H:Hp}{Q:VK}(h:tG T XE rl (dm op r) σ H Q):HN (Km T XE rl op) (sj (tQ T XE r) Bg) σ H Q:=by
 obtain⟨ρ,env,s,hs,he,ho⟩:=h
 refine step hs he ho λ v s1 ρ1 H1 x _ u1 bo cS a6 aP=>?_
 obtain⟨a,ws,rfl,q,k⟩:=a6
 exact⟨a,ws,ρ1,v,s1,rfl,bo,q,k,aP⟩
theorem Cr {id:String}{op:List AV->S->R AV}{x:Str}{p:Pos}{e:Expr}{es:List Expr}{r:dR}(hc:cg X (.builtin id) (Bs T XE op)) (hm:X.mg x=none)(hv:bootBuiltins x=some (.builtin id)) (ha:PA X (e :: es) (tP T XE r)) (hg:Gl X x:=by rfl)(hn:x≠"__name__":=by decide)(q_:(x == ("__debug__":Str))=false:=by decide)
  (he:starEach (e :: es) X.env=(false,eval e X.env) :: starEach es X.env:=by rfl) (i':(backTo pos (starEach es X.env)).any (·.1)=false:=by rfl):PE X (.Call (.Name x p) (e :: es) [] pos) (tE T XE (gp op r)):=
 PE.imp (gY hc hg hm hv ha hn q_ he i') λ _ _ _ h=>DM h
theorem Ja {id:String}{op:List AV->S->R AV}{x:Str}{p:Pos}{e:Expr}{es:List Expr}{r:dR}(hc:cg X (.type id) (Bs T XE op)) (hm:X.mg x=none)(hv:bootBuiltins x=some (.type id)) (ha:PA X (e :: es) (tP T XE r)) (hg:Gl X x:=by rfl)(hn:x≠"__name__":=by decide)(q_:(x == ("__debug__":Str))=false:=by decide)
  (he:starEach (e :: es) X.env=(false,eval e X.env) :: starEach es X.env:=by rfl) (i':(backTo pos (starEach es X.env)).any (·.1)=false:=by rfl):PE X (.Call (.Name x p) (e :: es) [] pos) (tE T XE (gp op r)):=
 PE.imp (lG hc hg hm hv ha hn q_ he i') λ _ _ _ h=>DM h
theorem IS {α:Type}{rl:Rl α V}{id:String}{op:List AV->S->R α}{x:Str}{p:Pos}{e:Expr}{r:dR}(hc:cg X (.type id) (Km T XE rl op)) (hm:X.mg x=none)(hv:bootBuiltins x=some (.type id)) (ha:PE X e (tQ T XE r)) (hg:Gl X x:=by rfl)(hn:x≠"__name__":=by decide)(q_:(x == ("__debug__":Str))=false:=by decide)
  (he:starEach [e] X.env=(false,eval e X.env) :: starEach [] X.env:=by rfl) (i':(backTo pos (starEach [] X.env)).any (·.1)=false:=by rfl):PE X (.Call (.Name x p) [e] [] pos) (tG T XE rl (dm op r)):=
 PE.imp (lG hc hg hm hv (cQ ha gK he) hn q_ he i') λ _ _ _ h=>J2 h
def kI:List AV->S->R AV
 | [.int i],s=>.ok (.int (if i < 0 then -i else i)) s
 | _,_=>.bad
theorem aR.fR {ρ:List Addr}{H:Hp}{v:AV}{xs:List V}(h:aR T ρ H [v] xs):∃ x,xs=[x]/\VR T ρ H v x:=by
 obtain⟨x,ys,rfl,k1,k2⟩:=h.cons_inv
 cases k2.nil_inv
 exact⟨x,rfl,k1⟩
theorem aR.two_inv {ρ:List Addr}{H:Hp}{v w:AV}{xs:List V}(h:aR T ρ H [v,w] xs):∃ x y,xs=[x,y]/\VR T ρ H v x/\VR T ρ H w y:=by
 obtain⟨x,ys,rfl,k1,k2⟩:=h.cons_inv
 obtain⟨y,rfl,k3⟩:=k2.fR
 exact⟨x,y,rfl,k1,k3⟩
theorem cAbs:cg X (.builtin "abs") (Bs T XE kI):=by
 intro pins s σ H xs us Q I r ⟨ρ,args,st,sr,va,ho⟩
 unfold kI at ho
 split at ho
 ·obtain⟨x,rfl,k⟩:=va.fR
  cases k.int_inv
  exact AL pins s σ H _ us Q I r ⟨_,rfl,ho.aW sr cO⟩
 ·exact ho.elim
def IB:List AV->S->R AV
 | [.int i,.int j],s=>.ok (.int (if j < i then j else i)) s
 | _,_=>.bad
def sM:List AV->S->R AV
 | [.int i,.int j],s=>.ok (.int (if j > i then j else i)) s
 | _,_=>.bad
theorem Nu (hc:X.calm=true):cg X (.builtin "max") (Bs T XE sM):=by
 intro pins s σ H xs us Q I r ⟨ρ,args,st,sr,va,ho⟩
 unfold sM at ho
 split at ho
 ·obtain⟨x,y,rfl,k,k2⟩:=va.two_inv
  cases k.int_inv
  cases k2.int_inv
  exact yg hc pins s σ H _ us Q I r ⟨_,_,rfl,ho.aW sr cO⟩
 ·exact ho.elim
noncomputable def iV:List AV->S->R AV
 | [.int i,.int j],s=>if 0 < j/\C_ j then .ok (.tup [.int (i / j),.int (i % j)]) s else .bad
 | _,_=>.bad
theorem C1:cg X (.builtin "divmod") (Bs T XE iV):=by
 intro pins s σ H xs us Q I r ⟨ρ,args,st,sr,va,ho⟩
 unfold iV at ho
 split at ho
 ·obtain⟨x,y,rfl,k,k2⟩:=va.two_inv
  cases k.int_inv
  cases k2.int_inv
  obtain⟨hl,ho⟩:=ho.bK
  exact rJ pins s σ H _ us Q I r ⟨_,_,rfl,⟨hl.1,hl.2.f⟩,λ p hp=>ho.tup sr hp (.cons cO (.one cO))⟩
 ·exact ho.elim
def nK:List AV->S->R AV
 | [.int i],s=>.ok (.int i) s
 | [.bl b],s=>.ok (.int (if b then 1 else 0)) s
 | _,_=>.bad
theorem cInt:cg X (.type "int") (Bs T XE nK):=by
 intro pins s σ H xs us Q I r ⟨ρ,args,st,sr,va,ho⟩
 unfold nK at ho
 split at ho
 ·obtain⟨x,rfl,k⟩:=va.fR
  cases k.int_inv
  exact qo pins s σ H _ us Q I r (.inl ⟨_,rfl,ho.aW sr cO⟩)
 ·obtain⟨x,rfl,k⟩:=va.fR
  cases k.fH
  exact qo pins s σ H _ us Q I r (.inr ⟨_,rfl,ho.aW sr cO⟩)
 ·exact ho.elim
def dq:List AV->S->R AV
 | [.str z],s=>if z.length<=sizeLine then .ok (.int z.length) s else .bad
 | [v],s=>need (items v s) λ xs=>.ok (.int xs.length) s
 | _,_=>.bad
theorem Nv (hK:X.K=T.K):cg X (.builtin "len") (Bs T XE dq):=by
 intro pins s σ H xs us Q I r ⟨ρ,args,st,sr,va,ho⟩
 have rest:∀ v,args=[v]->Out T XE (rV T) ρ H (need (items v st) λ xs=>.ok (.int xs.length) st) Q->wpAny (model X.prog X.w) X.A (call (.builtin "len") us) (EP X pins σ Q) X.xe s:=by
  rintro v rfl ho
  obtain⟨ys,e,ho⟩:=ho.aI
  obtain⟨x,rfl,k⟩:=va.fR
  obtain⟨a,vs,rfl,h1,k1⟩:=p5 e sr k
  exact rH pins s σ H _ us Q I r ⟨a,vs,rfl,by rw[hK];exact h1,by rw[<-k1.length];exact ho.aW sr cO⟩
 unfold dq at ho
 split at ho
 ·obtain⟨x,rfl,k⟩:=va.fR
  cases k.str_inv
  obtain⟨hl,ho⟩:=ho.bK
  exact rG pins s σ H _ us Q I r ⟨_,rfl,hl,ho.aW sr cO⟩
 ·exact rest _ rfl ho
 ·exact ho.elim
def jB:List AV->Option (List Bool)
 | []=>some []
 | .bl i :: r=>(jB r).map (i :: ·)
 | _ :: _=>none
theorem uf:∀ {l:List AV}{ns:List Bool},jB l=some ns->l=ns.map .bl
 | [],_,h=>by cases h;rfl
 | v :: r,ns,h=>by
  cases v<;>try cases h
  rename_i i
  cases e:jB r with
  | none=>rw[show jB (.bl i :: r)=(jB r).map (i :: ·) from rfl,e]at h;cases h
  | some q=>
   rw[show jB (.bl i :: r)=(jB r).map (i :: ·) from rfl,e]at h;cases h
   rw[uf e];rfl
@[simp] theorem oO (ns:List Bool):jB (ns.map .bl)=some ns:=by
 induction ns with
 | nil=>rfl
 | cons a r ih=>show(jB (r.map .bl)).map (a :: ·)=_;rw[ih];rfl
def dC (xs:List AV)(s:S):R AV:=need (jB xs) λ ns=>.ok (.bl (ns.all id)) s
def LH {α:Type}(T:Tx)(XE:fU)(rl:Rl α V)(op:List AV->S->R α):List V->Hp->VK->Prop:=λ vs H Q=>∃ a ws ρ xs s,vs=[.ref a]/\SR T ρ s H/\H a=some (.lst ws)/\aR T ρ H xs ws/\Out T XE rl ρ H (op xs s) Q
theorem J3 {α:Type}{rl:Rl α V}{op:List AV->S->R α}{r:dR}{σ:St}{H:Hp}{Q:VK}(h:tG T XE rl (dm op r) σ H Q):HN (LH T XE rl op) (sj (tL T XE r) Bg) σ H Q:=by
 obtain⟨ρ,env,s,hs,he,ho⟩:=h
 refine step hs he ho λ v s1 ρ1 H1 x _ u1 bo cS a6 aP=>?_
 obtain⟨a,ws,rfl,_,_,q,k⟩:=a6
 exact⟨a,ws,ρ1,v,s1,rfl,bo,q,k,aP⟩
theorem IT {α:Type}{rl:Rl α V}{id:String}{op:List AV->S->R α}{x:Str}{p:Pos}{e:Expr}{r:dR}(hc:cg X (.builtin id) (LH T XE rl op)) (hm:X.mg x=none)(hv:bootBuiltins x=some (.builtin id)) (ha:PE X e (tL T XE r)) (hg:Gl X x:=by rfl)(hn:x≠"__name__":=by decide)(q_:(x == ("__debug__":Str))=false:=by decide)
  (he:starEach [e] X.env=(false,eval e X.env) :: starEach [] X.env:=by rfl) (i':(backTo pos (starEach [] X.env)).any (·.1)=false:=by rfl):PE X (.Call (.Name x p) [e] [] pos) (tG T XE rl (dm op r)):=
 PE.imp (gY hc hg hm hv (cQ ha gK he) hn q_ he i') λ _ _ _ h=>J3 h
theorem Nw (hc:X.calm=true):cg X (.builtin "all") (LH T XE (rV T) dC):=by
 intro pins s σ H xs us Q I r ⟨a,ws,ρ,ys,st,e,sr,h1,k,ho⟩
 subst e
 obtain⟨ns,e,ho⟩:=ho.aI
 rw[uf e]at k
 rw[k.wZ]at h1
 exact yi hc pins s σ H _ us Q I r ⟨a,ns,rfl,fJ.of h1,ho.aW sr dM⟩
def d_ (xs:List AV)(s:S):R (List AV):=.ok xs s
theorem J6 (hK:X.K=T.K):cg X (.type "list") (Km T XE (rL T) d_):=by
 intro pins s σ H xs us Q I r ⟨a,ws,ρ,ys,st,e,sr,h1,k,ho⟩
 subst e
 exact rF pins s σ H _ us Q I r ⟨a,ws,rfl,by rw[hK];exact h1,λ l hl=>ho.lst sr hl k⟩
def gJ (xs:List AV)(s:S):R AV:=.ok (.tup xs) s
theorem G0 (hK:X.K=T.K):cg X (.type "tuple") (Km T XE (rV T) gJ):=by
 intro pins s σ H xs us Q I r ⟨a,ws,ρ,ys,st,e,sr,h1,k,ho⟩
 subst e
 refine pB pins s σ H _ us Q I r ⟨a,ws,rfl,?_⟩
 rcases h1 with h1|h1
 ·exact .inl ⟨by rw[hK];exact h1,λ l hl=>ho.tup sr hl k⟩
 ·exact .inr ⟨by rw[hK];exact h1,ho.aW sr (jK h1 k)⟩
def cf (v:AV)(s:S):Option String:=match v with
 | .aY=>some "NoneType"
 | .bl _=>some "bool"
 | .int _=>some "int"
 | .str _=>some "str"
 | .tup _=>some "tuple"
 | .sq _=>some "list"
 | .ref i=>match s[i]? with
  | some (.lst _)=>some "list"
  | some (.dK _)=>some "dict"
  | some (.dT _)=>some "dict"
  | _=>none
def dh:List String:=["NoneType","bool","int","str","tuple","list","dict"]
def fj (t n:String):Bool:=t == n || (t == "bool" && n == "int")
theorem FW {K:PySem.W.Frag}{t n:String}(ht:t∈dh)(hn:n∈dh):PySem.W.kitOne K (.type t) (.type n)=some (fj t n):=by
 simp only[dh,List.mem_cons,List.not_mem_nil,or_false]at ht hn
 rcases ht with rfl|rfl|rfl|rfl|rfl|rfl|rfl<;>rcases hn with rfl|rfl|rfl|rfl|rfl|rfl|rfl<;>rfl
theorem qz {ρ:List Addr}{H:Hp}{s:S}{v:AV}{t:String}{x:V}(h:cf v s=some t)(sr:SR T ρ s H)(va:VR T ρ H v x):Hd T.K H x t/\t∈dh:=by
 cases v with
 | aY=>cases va.jr;cases h;exact⟨rfl,by simp[dh]⟩
 | bl c=>cases va.fH;cases h;exact⟨rfl,by simp[dh]⟩
 | int c=>cases va.int_inv;cases h;exact⟨rfl,by simp[dh]⟩
 | str c=>cases va.str_inv;cases h;exact⟨rfl,by simp[dh]⟩
 | tup c=>obtain⟨a,vs,rfl,h1,k⟩:=va.c6;cases h;exact⟨.inl ⟨rfl,vs,h1⟩,by simp[dh]⟩
 | sq c=>obtain⟨a,vs,rfl,h1,k⟩:=va.f6;cases h;exact⟨.inr (.inl ⟨rfl,vs,h1.xp⟩),by simp[dh]⟩
 | ref i=>
  have h:(match s[i]? with
  | some (.lst _)=>some "list"
  | some (.dK _)=>some "dict"
  | some (.dT _)=>some "dict"
  | _=>none)=some t:=h
  obtain⟨a,e1,rfl⟩:=va.jo
  split at h
  ·rename_i xs e
   cases h
   obtain⟨b,e2,vs,h1,_⟩:=sr.obj i _ e
   rw[e1]at e2;cases e2
   exact⟨.inr (.inl ⟨rfl,vs,fJ.of h1⟩),by simp[dh]⟩
  ·rename_i xs e
   cases h
   obtain⟨b,e2,vs,h1,_⟩:=sr.obj i _ e
   rw[e1]at e2;cases e2
   exact⟨.inr (.inr ⟨rfl,.inl ⟨vs,h1⟩⟩),by simp[dh]⟩
  ·rename_i xs e
   cases h
   obtain⟨b,e2,vs,h1,_⟩:=sr.obj i _ e
   rw[e1]at e2;cases e2
   exact⟨.inr (.inr ⟨rfl,.inr ⟨vs,h1⟩⟩),by simp[dh]⟩
  ·cases h
def bU (n:String)(v:AV)(s:S):R AV:=need (cf v s) λ t=>.ok (.bl (fj t n)) s
theorem FH {n:String}{nm:Str}{p p2:Pos}{e:Expr}{m:Ev}(hK:X.K=T.K)(hn:n∈dh)(hm:X.mg "isinstance"=none)(Ju:X.mg nm=none)(P8:bootBuiltins nm=some (.type n)) (ha:PE X e (tE T XE m)) (hg:Gl X "isinstance":=by rfl)(Jy:Gl X nm:=by rfl)(Qm:nm≠"__name__":=by decide)(q_:(nm == ("__debug__":Str))=false:=by decide)
  (he:starEach [e,.Name nm p2] X.env=(false,eval e X.env) :: starEach [.Name nm p2] X.env:=by rfl) (Hu:starEach [.Name nm p2] X.env=(false,eval (.Name nm p2) X.env) :: starEach [] X.env:=by rfl) (i':(backTo pos (starEach [.Name nm p2] X.env)).any (·.1)=false:=by rfl) :
  PE X (.Call (.Name "isinstance" p) [e,.Name nm p2] [] pos) (tE T XE (cK (bU n) m)):=
 PE.imp (gY AK hg hm Ro.boot_isinstance (cQ ha (cQ (qH (v:=.ty n) Jy Ju P8 rfl Qm q_) gK Hu) he) (by decide) (by decide) he i') λ σ H Q ⟨ρ,env,s,hs,he,ho⟩=>
  step hs he ho λ v s1 ρ1 H1 x _ u1 bo cS a6 aP=>by
   obtain⟨t,e,aP⟩:=aP.aI
   obtain⟨h1,h2⟩:=qz e bo a6
   exact⟨t,x,n,_,rfl,by rw[hK];exact h1,FW h2 hn,aP.aW bo dM⟩
end
end Mm
namespace Mm
open PySem L2
section
variable {T:Tx}{XE:fU}{X:Cx}{pos:Pos}
def Kl (T:Tx)(XE:fU)(op:AV->List AV->S->R AV):V->List V->Hp->VK->Prop:=λ x xs H Q=>∃ ρ v vs s,SR T ρ s H/\VR T ρ H v x/\aR T ρ H vs xs/\Out T XE (rV T) ρ H (op v vs s) Q
def cw (n:String)(v:AV)(s:S):Option Unit:=match v,n with
 | .str _,"str"=>some ()
 | .sq _,"list"=>some ()
 | .ref i,"list"=>(aq s i).map λ _=>()
 | .ref i,"dict"=>match s[i]? with
  | some (.dK _)=>some ()
  | some (.dT _)=>some ()
  | _=>none
 | _,_=>none
theorem zY {n:String}{ρ:List Addr}{H:Hp}{s:S}{v:AV}{x:V}(h:cw n v s=some ()) (sr:SR T ρ s H)(va:VR T ρ H v x):Kf T.K n x H:=by
 unfold cw at h
 split at h
 ·cases va.str_inv;rfl
 ·obtain⟨a,vs,rfl,h1,k⟩:=va.f6
  exact .inl ⟨rfl,vs,h1.xp⟩
 ·rename_i i
  cases e:aq s i with
  | none=>rw[e]at h;cases h
  | some xs=>
   obtain⟨a,vs,rfl,_,h1,k⟩:=sr.dN (ay e) va
   exact .inl ⟨rfl,vs,fJ.of h1⟩
 ·rename_i i
  obtain⟨a,e1,rfl⟩:=va.jo
  split at h
  ·rename_i xs e
   obtain⟨b,e2,vs,h1,_⟩:=sr.obj i _ e
   rw[e1]at e2;cases e2
   exact .inr (.inr (.inl ⟨rfl,.inl ⟨vs,h1⟩⟩))
  ·rename_i xs e
   obtain⟨b,e2,vs,h1,_⟩:=sr.obj i _ e
   rw[e1]at e2;cases e2
   exact .inr (.inr (.inl ⟨rfl,.inr ⟨vs,h1⟩⟩))
  ·cases h
 ·cases h
def nV (n:String)(op:AV->List AV->S->R AV)(o:Ev)(r:dR):Ev:=λ env s=>(o env s).bind λ v s1=>need (cw n v s1) λ _=>(r env s1).bind λ vs s2=>op v vs s2
theorem Fy {n:String}{op:AV->List AV->S->R AV}{o:Ev}{r:dR}{σ:St}{H:Hp}{Q:VK}(h:tE T XE (nV n op o r) σ H Q):Lk T.K n (Kl T XE op) (tE T XE o) (tP T XE r) σ H Q:=by
 obtain⟨ρ,env,s,hs,he,ho⟩:=h
 refine step hs he ho λ v s1 ρ1 H1 x _ u1 bo cS a6 aP=>?_
 obtain⟨_,e,aP⟩:=aP.aI
 exact⟨zY e bo a6,step bo cS aP λ vs s2 ρ2 H2 xs _ u2 hV mJ j' c9=>⟨ρ2,v,vs,s2,hV,VR.up u2 a6,j',c9⟩⟩
theorem zG {n id:String}{name:Str}{apos eR:Pos}{o e:Expr}{es:List Expr}{op:AV->List AV->S->R AV}{m:Ev}{r:dR}(hK:X.K=T.K)(pa:PlainAttrs n)(slot:Slot n name id)(Ga:typeOf (.builtin id)=pure (.type "method_descriptor")) (hm:DR X id (Kl T XE op)) (ho:PE X o (tE T XE m)) (ha:PA X (e :: es) (tP T XE r))
  (kY:attributeBase o name X.env (eval o X.env)=eval o X.env:=by rfl)
  (Aj:((backTo eR (starEach (e :: es) X.env)).all (λ x=>!x.1) && (backToKw eR (keywordEach [] X.env)).all (λ x=>x.1.isSome)
   && decide ((e :: es).length+([]:List Keyword).length+(if ([]:List Keyword).isEmpty then 0 else 1) < 30))=true:=by rfl)
  (kX:(apos.endLine == eR.line)=true:=by rfl) (hs:starEach (e :: es) X.env=(false,eval e X.env) :: starEach es X.env:=by rfl) (oi:(backTo eR (starEach es X.env)).any (·.1)=false:=by rfl) :
  PE X (.Call (.Attribute o name apos) (e :: es) [] eR) (tE T XE (nV n op m r)):=
 PE.imp (EZ hK pa slot Ga hm ho ha kY Aj kX hs oi) λ _ _ _ h=>Fy h
def Du (n:String)(op:AV->List AV->S->R AV)(o:Ev):Ev:=λ env s=>(o env s).bind λ v s1=>need (cw n v s1) λ _=>op v [] s1
theorem Out.Ls {α β:Type}{rl:Rl α β}{ρ:List Addr}{H:Hp}{s:S}{i:Nat}{a:Addr}{vs ws:List V}{ys:List AV}{v:α}{x:β}{Q:β->Hp->Prop}(ho:Out T XE rl ρ H (.ok v (s.set i (.lst ys))) Q) (sr:SR T ρ s H)(ea:ρ[i]? = some a)(h1:H a=some (.lst vs)) (k:aR T ρ H ys ws)(hx:rl.r H ρ (upd H a (.lst ws)) v x):Q x (upd H a (.lst ws)):=by
 have up:Up ρ H ρ (upd H a (.lst ws)):=sr.yB ea h1 (λ _ z=>nomatch z) (λ _ _ z=>nomatch z)
 exact ho ρ _ x up (sr.set ea up (OR.lst aQ (k.up up))) hx
theorem Out.HX {ρ:List Addr}{H:Hp}{s:S}{i:Nat}{a:Addr}{vs ws:List V}{ys:List AV}{v:AV}{x:V}{Q:VK}(ho:Out T XE (rV T) ρ H (.ok v (s.set i (.lst ys))) Q) (sr:SR T ρ s H)(ea:ρ[i]? = some a)(h1:H a=some (.lst vs)) (k:aR T ρ H ys ws)(hx:VR T ρ (upd H a (.lst ws)) v x):Q x (upd H a (.lst ws)):=ho.Ls sr ea h1 k hx
def f_:AV->List AV->S->R AV
 | .ref i,[w],s=>need (aq s i) λ xs=>if xs.length < sizeLine then .ok .aY (s.set i (.lst (xs++[w]))) else .bad
 | _,_,_=>.bad
theorem CW:DR X "list.append" (Kl T XE f_):=by
 intro pins s σ H x xs v us Q I rx rv ⟨ρ,a,vs,st,sr,va,vb,ho⟩
 unfold f_ at ho
 split at ho
 ·obtain⟨ys,e,ho⟩:=ho.aI
  obtain⟨hl,ho⟩:=ho.bK
  obtain⟨p,ws,rfl,ea,h1,k⟩:=sr.dN (ay e) va
  obtain⟨y,rfl,k2⟩:=vb.fR
  exact pO pins s σ H _ _ v us Q I rx rv ⟨p,ws,y,rfl,rfl,h1,by rw[<-k.length];exact hl,ho.HX sr ea h1 (k.append (.one k2)) ux⟩
 ·exact ho.elim
def NQ:AV->List AV->S->R AV
 | .ref i,[.int j],s=>need (aq s i) λ xs=>if 0<=j/\j < xs.length then need xs[j.toNat]? λ y=>.ok y (s.set i (.lst (xs.eraseIdx j.toNat))) else .bad
 | _,_,_=>.bad
section
variable {κ:Type} [DecidableEq κ]
def hR:List (κ × AV)->κ->Option AV
 | [],_=>none
 | p :: r,k=>if p.1=k then some p.2 else hR r k
def kH (kvs:List (κ × AV)) (k:κ)(v:AV):List (κ × AV):=
 if (kvs.any λ kv=>decide (kv.1=k))=true then kvs.map (λ kv=>if kv.1=k then (kv.1,v) else kv) else kvs++[(k,v)]
theorem mQ {ρ:List Addr}{H:Hp}(k:κ):∀ {kvs:List (κ × AV)}{ks:List (κ × V)},kvs.map (·.1)=ks.map (·.1)->aR T ρ H (kvs.map (·.2)) (ks.map (·.2))->(∀ v,hR kvs k=some v->∃ x,jL ks k=some x/\VR T ρ H v x)/\(hR kvs k=none->jL ks k=none)
 | [],ks,e,h=>by
  cases ks with
  | nil=>exact⟨(λ v z=>nomatch z),λ _=>rfl⟩
  | cons a r=>cases e
 | p :: r,ks,e,h=>by
  cases ks with
  | nil=>cases e
  | cons q t=>
   rw[List.map_cons,List.map_cons,List.cons.injEq]at e
   rw[List.map_cons,List.map_cons]at h
   obtain⟨x,ys,e2,k1,k2⟩:=h.cons_inv
   rw[List.cons.injEq]at e2
   obtain⟨Mc,Mb⟩:=mQ k e.2 (e2.2 ▸ k2)
   unfold hR
   by_cases hp:p.1=k
   ·rw[if_pos hp,ko (e.1 ▸ hp)]
    refine⟨λ v z=>?_,λ z=>nomatch z⟩
    cases z
    exact⟨q.2,rfl,e2.1 ▸ k1⟩
   ·rw[if_neg hp,kq (λ z=>hp (e.1.trans z))]
    exact⟨Mc,Mb⟩
theorem vM {ρ:List Addr}{H:Hp}(k:κ){v:AV}{x:V}(kv:VR T ρ H v x){kvs:List (κ × AV)}{ks:List (κ × V)}(e:kvs.map (·.1)=ks.map (·.1)) (h:aR T ρ H (kvs.map (·.2)) (ks.map (·.2))) :
  (kH kvs k v).map (·.1)=(putK ks k x).map (·.1)/\aR T ρ H ((kH kvs k v).map (·.2)) ((putK ks k x).map (·.2)):=by
 have an:∀ {kvs:List (κ × AV)}{ks:List (κ × V)},kvs.map (·.1)=ks.map (·.1)->(kvs.any λ kv=>decide (kv.1=k))=(ks.any λ kv=>decide (kv.1=k)):=by
  intro kvs
  induction kvs with
  | nil=>intro ks e;cases ks with|nil=>rfl|cons a r=>cases e
  | cons p r ih=>
   intro ks e
   cases ks with
   | nil=>cases e
   | cons q t=>
    rw[List.map_cons,List.map_cons,List.cons.injEq]at e
    rw[List.any_cons,List.any_cons,ih e.2,e.1]
 unfold kH putK
 rw[an e]
 by_cases ha:(ks.any λ kv=>decide (kv.1=k))=true
 ·rw[if_pos ha,if_pos ha]
  clear ha an
  induction kvs generalizing ks with
  | nil=>cases ks with|nil=>exact⟨rfl,.nil⟩|cons a r=>cases e
  | cons p r ih=>
   cases ks with
   | nil=>cases e
   | cons q t=>
    rw[List.map_cons,List.map_cons,List.cons.injEq]at e
    rw[List.map_cons,List.map_cons]at h
    obtain⟨y,ys,e2,k1,k2⟩:=h.cons_inv
    rw[List.cons.injEq]at e2
    obtain⟨i1,i2⟩:=ih e.2 (e2.2 ▸ k2)
    simp only[List.map_cons,e.1]
    by_cases hq:q.1=k
    ·rw[if_pos hq,if_pos hq,i1];exact⟨rfl,.cons kv i2⟩
    ·rw[if_neg hq,if_neg hq,i1,e.1];exact⟨rfl,.cons (e2.1 ▸ k1) i2⟩
 ·rw[if_neg ha,if_neg ha,List.map_append,List.map_append,List.map_append,List.map_append,e]
  exact⟨rfl,h.append (.one kv)⟩
end
def ip:AV->Option Key
 | .int i=>some (.inl i)
 | .str x=>some (.inr x)
 | _=>none
theorem kR {ρ:List Addr}{H:Hp}{v:AV}{k:Key}{x:V}(h:ip v=some k)(va:VR T ρ H v x):x=kV k:=by
 cases v<;>try cases h
 ·cases va.int_inv;rfl
 ·cases va.str_inv;rfl
def oG (s:S)(i:Nat):Option (List (Key × AV)):=match s[i]? with
 | some (.dK xs)=>some xs
 | _=>none
theorem m9 {s:S}{i:Nat}{xs:List (Key × AV)}(h:oG s i=some xs):s[i]? = some (.dK xs):=by
 unfold oG at h
 split at h
 ·cases h;assumption
 ·cases h
def iW:AV->AV->S->R AV
 | .ref i,y,s=>need (oG s i) λ kvs=>need (ip y) λ k=>need (hR kvs k) λ v=>.ok v s
 | _,_,_=>.bad
theorem Cp {o i:Expr}{m n:Ev}(hu:X.A.units+1 < cLine)(ho:PE X o (tE T XE m)) (hi:PE X i (tE T XE n)) (hs:Hg i:=by exact λ _ _=>rfl):PE X (.Subscript o i pos) (tE T XE (af iW m n)):=
 PE.imp (BP hu ho hi hs) λ σ H Q ⟨ρ,env,s,hs,he,ho⟩=>step hs he ho λ v s1 ρ1 H1 x _ u1 bo cS a6 aP=>step bo cS aP λ w s2 ρ2 H2 y _ u2 hV mJ j' c9=>by
  have a6:VR T ρ2 H2 v x:=VR.up u2 a6
  cases v with
  | ref i=>
   obtain⟨kvs,e1,c9⟩:=c9.aI
   obtain⟨k,e2,c9⟩:=c9.aI
   obtain⟨z,e3,c9⟩:=c9.aI
   obtain⟨a,ks,rfl,ea,h1,q1,q2⟩:=hV.yf (m9 e1) a6
   obtain⟨x',ex,kx⟩:=(mQ k q1 q2).1 z e3
   exact⟨a,x',rfl,by rw[kR e2 j',<-ex];exact pC.k h1,c9.aW hV kx⟩
  | _=>exact c9.elim
def NR:AV->AV->S->R AV
 | y,.ref i,s=>need (oG s i) λ kvs=>need (ip y) λ k=>.ok (.bl (hR kvs k).isSome) s
 | _,_,_=>.bad
def nM:AV->AV->S->R AV
 | y,.ref i,s=>need (oG s i) λ kvs=>need (ip y) λ k=>.ok (.bl (!(hR kvs k).isSome)) s
 | _,_,_=>.bad
theorem GX {op:AV->AV->S->R AV}{b:Bool->Bool}(u7:∀ y w s,op y w s=(match w with|.ref i=>need (oG s i) λ kvs=>need (ip y) λ k=>.ok (.bl (b (hR kvs k).isSome)) s|_=>.bad)) {m n:Ev}{σ:St}{H:Hp}{Q:VK}(h:tE T XE (af op m n) σ H Q) :
  tE T XE m σ H λ y H1=>tE T XE n σ H1 λ x H2=>∃ a o,x=.ref a/\pC H2 a y o/\Q (.bl (b o.isSome)) H2:=by
 obtain⟨ρ,env,s,hs,he,ho⟩:=h
 refine step hs he ho λ v s1 ρ1 H1 x _ u1 bo cS a6 aP=>step bo cS aP λ w s2 ρ2 H2 y _ u2 hV mJ j' c9=>?_
 rw[u7]at c9
 have j':VR T ρ2 H2 w y:=j'
 cases w with
 | ref i=>
  obtain⟨kvs,e1,c9⟩:=c9.aI
  obtain⟨k,e2,c9⟩:=c9.aI
  obtain⟨a,ks,rfl,ea,h1,q1,q2⟩:=hV.yf (m9 e1) j'
  have vk:=kR e2 (VR.up u2 a6)
  refine⟨a,jL ks k,rfl,by rw[vk];exact pC.k h1,?_⟩
  have:(jL ks k).isSome=(hR kvs k).isSome:=by
   cases ev:hR kvs k with
   | none=>rw[(mQ k q1 q2).2 ev];rfl
   | some z=>obtain⟨x',ex,_⟩:=(mQ k q1 q2).1 z ev;rw[ex];rfl
  rw[this]
  exact c9.aW hV dM
 | _=>exact c9.elim
theorem Bv {o i:Expr}{m n:Ev}(hu:X.A.units+1 < cLine)(hi:PE X i (tE T XE m)) (ho:PE X o (tE T XE n)) (h1:behindInMarks .NotIn o=false:=by rfl):PT X (.Compare i [.NotIn] [o] pos) (jn T XE (cB (af nM m n))):=
 PT.imp (EE (xC hu hi ho) h1) λ σ H Q h=>GX (b:=not) (λ y w s=>by cases w<;>rfl) (yG h)
def putD (v d y:AV)(env:En)(s:S):RS:=match d with
 | .ref i=>match oG s i,ip y with
  | some kvs,some k=>if kvs.length < sizeLine then .nx env (s.set i (.dK (kH kvs k v))) else .bad
  | _,_=>.bad
 | _=>.bad
def nF (d y v:Ev):Ms:=λ env s=>(v env s).dw λ a s1=>(d env s1).dw λ b s2=>(y env s2).dw λ c s3=>putD a b c env s3
theorem Cb {o i value:Expr}{pos':Pos}{m n r:Ev}(hu:X.A.units+1 < cLine)(ho:PE X o (tE T XE m)) (hi:PE X i (tE T XE n)) (hv:PE X value (tE T XE r)) (hs:swapsWith value (some (.Subscript o i pos')) pos.line X.env=pure false:=by rfl):PS X (.Assign [.Subscript o i pos'] value pos) (tS T XE (nF m n r)):=
 PS.imp (BB hu ho hi hv hs) λ D σ H ⟨ρ,env,s,hs,he,ho⟩=>gy hs he ho λ v s1 ρ1 H1 x _ u1 bo cS a6 aP=>gy bo cS aP λ d s2 ρ2 H2 y _ u2 hV mJ j' c9=>gy hV mJ c9 λ c s3 ρ3 H3 z _ u3 oX Az HD u9=>by
  have j':VR T ρ3 H3 d y:=VR.up u3 j'
  have a6:VR T ρ3 H3 v x:=VR.up (u2.trans u3) a6
  unfold putD at u9
  split at u9
  ·split at u9
   ·rename_i i kvs k e1 e2
    obtain⟨hl,u9⟩:=u9.bK
    obtain⟨a,ks,rfl,ea,h1,q1,q2⟩:=oX.yf (m9 e1) j'
    have MB:kvs.length=ks.length:=by have:=congrArg List.length q1;simpa using this
    refine⟨a,_,rfl,by rw[kR e2 HD];exact AW.k h1 (by rw[<-MB];exact hl),?_⟩
    obtain⟨p1,p2⟩:=vM k a6 q1 q2
    have up:Up ρ3 H3 ρ3 (upd H3 a (.dK (putK ks k x))):=oX.yB ea h1 (λ _ z=>nomatch z) (λ _ _ z=>nomatch z)
    exact u9 ρ3 _ σ up (oX.set ea up ⟨_,aQ,p1,p2.up up⟩) (Az.up up)
   ·exact u9.elim
  ·exact u9.elim
def zj (d y z:AV)(s:S):R AV:=match d with
 | .ref i=>need (oG s i) λ kvs=>need (ip y) λ k=>.ok ((hR kvs k).getD z) s
 | _=>.bad
def Dv (d y z:Ev):Ev:=λ env s=>(d env s).bind λ a s1=>need (cw "dict" a s1) λ _=>(y env s1).bind λ b s2=>(z env s2).bind λ c s3=>zj a b c s3
def L1:Ev:=λ _ s=>.ok (.ref s.length) (s++[.dK []])
theorem I0:PE X (.Dict [] [] pos) (tE T XE L1):=
 PE.imp ze λ σ H Q ⟨ρ,env,s,hs,he,ho⟩ p hp=>ho.alloc hs hp ⟨[],aQ,rfl,.nil⟩
def yY:List (Ev × Ev)->En->S->R (List (AV × AV))
 | [],_,s=>.ok [] s
 | (a,b) :: r,env,s=>(a env s).bind λ v s1=>(b env s1).bind λ w s2=>(yY r env s2).bind λ l s3=>.ok ((v,w) :: l) s3
def pZ:List (AV × AV)->Option (List (Key × AV))
 | []=>some []
 | (a,b) :: r=>(ip a).bind λ k=>(pZ r).map ((k,b) :: ·)
def qO (kvs more:List (Key × AV)):List (Key × AV):=more.foldl (λ acc kv=>kH acc kv.1 kv.2) kvs
def nW (l:List (Ev × Ev)):Ev:=λ env s=>(yY l env s).bind λ ps s1=>need (pZ ps) λ kvs=>if kvs.length<=15 then .ok (.ref s1.length) (s1++[.dK (qO [] kvs)]) else .bad
def OS (T:Tx)(ρ:List Addr)(H:Hp)(ps:List (AV × AV)) (xs:List (V × V)):Prop:=aR T ρ H (ps.map (·.1)) (xs.map (·.1))/\aR T ρ H (ps.map (·.2)) (xs.map (·.2))
theorem bind_assoc {α β γ:Type}(r:R α)(f:α->S->R β)(g:β->S->R γ):(r.bind f).bind g=r.bind λ a s=>(f a s).bind g:=by cases r<;>rfl
theorem iS {α β:Type}{rl:Rl α β}{Q:β->Hp->Prop}{env:En}{σ:St}:∀ (l:List (Ev × Ev)) {ρ:List Addr}{s:S}{H:Hp}{k:List (AV × AV)->S->R α}{F:List (V × V)->Hp->Prop},SR T ρ s H->ER T ρ H env σ->Out T XE rl ρ H ((yY l env s).bind k) Q->
  (∀ ps s1 ρ1 H1 xs,yY l env s=.ok ps s1->Up ρ H ρ1 H1->SR T ρ1 s1 H1->ER T ρ1 H1 env σ->OS T ρ1 H1 ps xs->F xs H1)->qB (l.map λ p=>(tE T XE p.1,tE T XE p.2)) σ H F
 | [],ρ,s,H,k,F,hs,he,ho,hk=>hk [] s ρ H [] rfl .refl hs he ⟨.nil,.nil⟩
 | (a,b) :: r,ρ,s,H,k,F,hs,he,ho,hk=>by
  have e:(yY ((a,b) :: r) env s).bind k=(a env s).bind λ v s1=>(b env s1).bind λ w s2=>(yY r env s2).bind λ l s3=>k ((v,w) :: l) s3:=by
   show((a env s).bind λ v s1=>(b env s1).bind λ w s2=>(yY r env s2).bind λ l s3=>.ok ((v,w) :: l) s3).bind k=_
   rw[bind_assoc]
   congr 1;funext v s1
   rw[bind_assoc]
   congr 1;funext w s2
   rw[bind_assoc]
   rfl
  rw[e]at ho
  refine step hs he ho λ v s1 ρ1 H1 x q1 u1 bo cS a6 aP=>step bo cS aP λ w s2 ρ2 H2 y q2 u2 hV mJ j' c9=>?_
  refine iS r hV mJ c9 λ ps s3 ρ3 H3 xs q3 u3 oX Az vp=>hk ((v,w) :: ps) s3 ρ3 H3 _ (by have q1:a env s=.ok v s1:=q1;have q2:b env s1=.ok w s2:=q2;show((a env s).bind λ v s1=>(b env s1).bind λ w s2=>(yY r env s2).bind λ l s3=>.ok ((v,w) :: l) s3)=_;rw[q1,dz,q2,dz,q3,dz]) ((u1.trans u2).trans u3) oX Az ⟨?_,?_⟩
  ·exact .cons (VR.up (u2.trans u3) a6) vp.1
  ·exact .cons (VR.up u3 j') vp.2
theorem pY {ρ:List Addr}{H:Hp}:∀ {ps:List (AV × AV)}{kvs:List (Key × AV)}{xs:List (V × V)},pZ ps=some kvs->OS T ρ H ps xs->∃ ks:List (Key × V),xs=ks.map (λ kv=>(kV kv.1,kv.2))/\kvs.map (·.1)=ks.map (·.1)/\aR T ρ H (kvs.map (·.2)) (ks.map (·.2))
 | [],kvs,xs,h,vp=>by
  cases h
  have:=vp.1.nil_inv
  cases xs with
  | nil=>exact⟨[],rfl,rfl,.nil⟩
  | cons a r=>cases this
 | (a,b) :: r,kvs,xs,h,vp=>by
  have h:(ip a).bind (λ k=>(pZ r).map ((k,b) :: ·))=some kvs:=h
  cases e1:ip a with
  | none=>rw[e1]at h;cases h
  | some k=>
   cases e2:pZ r with
   | none=>rw[e1,e2]at h;cases h
   | some q=>
    rw[e1,e2]at h
    cases h
    cases xs with
    | nil=>obtain⟨_,_,z,_⟩:=vp.1.cons_inv;cases z
    | cons p xs=>
     obtain⟨x1,y1,z1,k1,k2⟩:=vp.1.cons_inv
     obtain⟨x2,y2,z2,k3,k4⟩:=vp.2.cons_inv
     rw[List.map_cons,List.cons.injEq]at z1 z2
     obtain⟨ks,rfl,q1,q2⟩:=pY e2 ⟨z1.2 ▸ k2,z2.2 ▸ k4⟩
     refine⟨(k,p.2) :: ks,?_,by rw[List.map_cons,List.map_cons,q1],.cons (z2.1 ▸ k3) q2⟩
     rw[List.map_cons,<-kR e1 (z1.1 ▸ k1)]
theorem pP {ρ:List Addr}{H:Hp}:∀ {more:List (Key × AV)}{mo:List (Key × V)}{kvs:List (Key × AV)}{ks:List (Key × V)},more.map (·.1)=mo.map (·.1)->aR T ρ H (more.map (·.2)) (mo.map (·.2))->kvs.map (·.1)=ks.map (·.1)->aR T ρ H (kvs.map (·.2)) (ks.map (·.2))->
  (qO kvs more).map (·.1)=(eO ks mo).map (·.1)/\aR T ρ H ((qO kvs more).map (·.2)) ((eO ks mo).map (·.2))
 | [],mo,kvs,ks,e,h,e2,h2=>by
  cases mo with
  | nil=>exact⟨e2,h2⟩
  | cons a r=>cases e
 | p :: r,mo,kvs,ks,e,h,e2,h2=>by
  cases mo with
  | nil=>cases e
  | cons q t=>
   rw[List.map_cons,List.map_cons,List.cons.injEq]at e
   rw[List.map_cons,List.map_cons]at h
   obtain⟨y,ys,z,k1,k2⟩:=h.cons_inv
   rw[List.cons.injEq]at z
   obtain⟨p1,p2⟩:=vM p.1 (z.1 ▸ k1) e2 h2
   have:=pP (kvs:=kH kvs p.1 p.2) (ks:=putK ks q.1 q.2) e.2 (z.2 ▸ k2) (by rw[<-e.1];exact p1) (by rw[<-e.1];exact p2)
   exact this
theorem Co {keys:List (Option Expr)}{values:List Expr}{l:List (Ev × Ev)}(h:DP X pos keys values (l.map λ p=>(tE T XE p.1,tE T XE p.2))) (Al:keys.all (·.isSome)=true:=by rfl) (hl:keys.length=values.length:=by rfl)(h0:keys≠[]:=by decide)(MT:keys.length<=15:=by decide):PE X (.Dict keys values pos) (tE T XE (nW l)):=
 PE.imp (BO h Al hl h0 MT) λ σ H Q ⟨ρ,env,s,hs,he,ho⟩ p hp=>by
  have u0:=hs.dX (o:=.dK []) hp
  have n0:=hs.out hp
  refine iS l (hs.new hp) (he.up u0) (Out.up u0 ho) λ ps s1 ρ1 H1 xs q0 u1 bo cS vp=>?_
  unfold nW at ho
  rw[q0,dz]at ho
  obtain⟨kvs,e1,ho⟩:=ho.aI
  obtain⟨hl,ho⟩:=ho.bK
  obtain⟨ks,rfl,q1,q2⟩:=pY e1 vp
  have hd:=u1.fr p _ aQ n0
  have MB:kvs.length=ks.length:=by have:=congrArg List.length q1;simpa using this
  refine⟨hd.1,ks,rfl,by rw[<-MB];exact hl,?_⟩
  obtain⟨m1,m2⟩:=pP q1 q2 (kvs:=[]) (ks:=[]) rfl .nil
  have g:Gr ρ1 H1 (ρ1++[p]) (upd H1 p (.dK (eO [] ks))):=⟨List.prefix_append _ _,λ b ys e=>by rw[aD (nR e hd.1 (by intro z;cases z))];exact e,λ b o v e=>by rw[aD (nR e hd.1 (by intro z;cases z))];exact e⟩
  have g1:Gr ρ1 H1 ρ1 (upd H1 p (.dK (eO [] ks))):=⟨List.prefix_rfl,g.ju,g.iz⟩
  have s2:SR T ρ1 s1 (upd H1 p (.dK (eO [] ks))):=bo.up g1 λ a ha=>aD λ z=>hd.2 (z ▸ ha)
  have s3:SR T (ρ1++[p]) (s1++[.dK (qO [] kvs)]) (upd H1 p (.dK (eO [] ks))):=s2.add hd.2 ⟨_,aQ,m1,m2.gr g⟩
  have u2:Up ρ H (ρ1++[p]) (upd H1 p (.dK (eO [] ks))):=((u0.trans u1).mod hp hd.2).add hp
  exact ho _ _ _ u2 s3 (ni (T:=T) (H:=upd H1 p (.dK (eO [] ks))) (by rw[List.getElem?_append_right (by rw[bo.len];exact Nat.le_refl _),bo.len,Nat.sub_self];rfl))
theorem Cc:DP X pos [] [] (([]:List (Ev × Ev)).map λ p=>(tE T XE p.1,tE T XE p.2)):=BD
theorem zA {k v:Expr}{ks:List (Option Expr)}{vs:List Expr}{a b:Ev}{l:List (Ev × Ev)}(hk:PE X k (tE T XE a)) (hv:PE X v (tE T XE b)) (hr:DP X pos ks vs (l.map λ p=>(tE T XE p.1,tE T XE p.2))):DP X pos (some k :: ks) (v :: vs) (((a,b) :: l).map λ p=>(tE T XE p.1,tE T XE p.2)):=y6 hk hv hr
def dO (o i:Ev):Mt:=λ v env s=>(o env s).dw λ a s1=>(i env s1).dw λ b s2=>match a,b with
 | .ref k,.int j=>match aq s2 k with
  | some xs=>match qQ xs.length j with
   | some n=>.nx env (s2.set k (.lst (xs.set n v)))
   | none=>.bad
  | none=>.bad
 | _,_=>.bad
theorem Ci {o i:Expr}{m n:Ev}(ho:PE X o (tE T XE m)) (hi:PE X i (tE T XE n))
  (ha:∀ v,assign (.Subscript o i pos) X.env v=(do
   let ov <-holding [v] (eval o X.env)
   let iv <-holding [v,ov] (eval i X.env)
   standAt pos
   holding [v,ov,iv] (setItem ov iv v)
   release [v,ov,iv] []):=by intro _;rfl):PG X (.Subscript o i pos) (tT T XE (dO m n)):=
 PG.imp (EN ho hi set_list ha) λ x σ H Q ⟨ρ,env,s,v,hs,he,vr,ho⟩=>by
  refine gy hs he ho λ a s1 ρ1 H1 y _ u1 bo cS a6 aP=>gy bo cS aP λ b s2 ρ2 H2 z _ u2 hV mJ j' c9=>?_
  have a6:VR T ρ2 H2 a y:=VR.up u2 a6
  have j':VR T ρ2 H2 b z:=j'
  have vr:VR T ρ2 H2 v x:=VR.up (u1.trans u2) vr
  split at c9
  ·rename_i k j
   split at c9
   ·rename_i xs e1
    split at c9
    ·rename_i n e2
     obtain⟨p,ws,rfl,ea,h1,k1⟩:=hV.dN (ay e1) a6
     cases j'.int_inv
     have up:Up ρ2 H2 ρ2 (upd H2 p (.lst (ws.set n x))):=hV.yB ea h1 (λ _ z=>nomatch z) (λ _ _ z=>nomatch z)
     exact⟨p,ws,_,n,rfl,rfl,h1,by rw[<-k1.length];exact e2,c9 ρ2 _ σ up (hV.set ea up (OR.lst aQ ((k1.set n vr).up up))) (mJ.up up)⟩
    ·exact c9.elim
   ·exact c9.elim
  ·exact c9.elim
theorem B1 {o i:Ev}:j8 (dO o i):=λ v env s=>by
 unfold dO
 cases o env s with
 | bad=>exact .inr (.inr rfl)
 | ex c s1=>exact .inr (.inl ⟨_,_,rfl⟩)
 | ok a s1=>
  simp only[jg]
  cases i env s1 with
  | bad=>exact .inr (.inr rfl)
  | ex c s1=>exact .inr (.inl ⟨_,_,rfl⟩)
  | ok b s2=>
   simp only[jg]
   split
   ·split
    ·split
     ·exact .inl ⟨_,_,rfl⟩
     ·exact .inr (.inr rfl)
    ·exact .inr (.inr rfl)
   ·exact .inr (.inr rfl)
def wJ:AV->Bool
 | .aY=>true
 | .bl _=>true
 | .int _=>true
 | .str _=>true
 | _=>false
end
end Mm
namespace Mm
open PySem L2
section
variable {T:Tx}{XE:fU}{X:Cx}{pos:Pos}
structure Fk (P:Program)(w:World)(T:Tx)(mg:Str->Option Value)(base:Heap)(nm:Str)(n k:Nat)(Fn:List AV->S->R AV):Prop where
 ex:∃ f fd ps,j_ P w T.K mg base vv k f fd ps (oY T n Fn)/\Binds T.K fd ps []/\mg nm=some (.ref f)/\PySem.W.keepIn T.K (.ref f)=true
theorem L0 {k n:Nat}{Fn:List AV->S->R AV}{x:Str}{p:Pos}{e:Expr}{es:List Expr}{r:dR}(h:Fk X.prog X.w T X.mg X.base x n k Fn)(hr:fK k X.A)(ha:PA X (e :: es) (tP T rX r)) (hK:X.K=T.K:=by rfl)(hg:Gl X x:=by rfl)(q_:(x == ("__debug__":Str))=false:=by decide) (he:starEach (e :: es) X.env=(false,eval e X.env) :: starEach es X.env:=by rfl) (i':(backTo pos (starEach es X.env)).any (·.1)=false:=by rfl) :
  PE X (.Call (.Name x p) (e :: es) [] pos) (tE T rX (aj n Fn r)):=by
 obtain⟨f,fd,ps,G,hb,hm,hk⟩:=h.ex
 exact Cq hK G hr hm hk hb ha hg q_ he i'
structure uu (T:Tx)(mg:Str->Option Value)(x:Str)(a:AV):Prop where
 ex:∃ v u,mg x=some u/\RelV v u/\∀ ρ H,VR T ρ H a v
theorem FG {x:Str}{a:AV}(h:uu T X.mg x a)(hg:Gl X x:=by rfl)(hd:(x == ("__debug__":Str))=false:=by decide):PE X (.Name x pos) (tE T XE (mc a)):=by
 obtain⟨v,u,h1,h2,h3⟩:=h.ex
 exact Cn hg h1 h2 h3 hd
theorem Mi {k:Nat}{A:Around}(r:fK k A):A.units+30 < cLine:=by have:=r.un;omega
noncomputable def xY (m:Eb):Eb:=λ env s=>(m env s).bind λ v s1=>open Classical in if s1.take s.length=s then .ok v s else .bad
theorem Ie {e:Expr}{m:Eb}(h:PT X e (jn T XE m)):PT X e (jn T XE (xY m)):=
 PT.imp h λ σ H Q ⟨ρ,env,s,hs,he,ho⟩=>by
  refine⟨ρ,env,s,hs,he,?_⟩
  unfold xY at ho
  cases e:m env s with
  | bad=>rw[e]at ho;exact ho
  | ex c s1=>rw[e]at ho;exact ho
  | ok v s1=>
   rw[e]at ho
   obtain⟨e1,ho⟩:=ho.bK
   intro ρ1 H1 x u sr vr
   have:=sr.cut u.pre hs.len (by rw[e1];exact hs.closed)
   rw[e1]at this
   exact ho ρ H1 x u.cut this vr
def JN {α:Type}(n:String)(op:AV->List AV->S->R α)(o:Ev)(r:dR):En->S->R α:=λ env s=>(o env s).bind λ v s1=>need (cw n v s1) λ _=>(r env s1).bind λ vs s2=>op v vs s2
def xj (xs ys:List AV):List AV:=(xs.zip ys).map λ p=>AV.tup [p.1,p.2]
def sD (c:Bool)(v:AV)(s:S):Option (List AV × Gd):=match v with
 | .tup xs=>if c=true then some (xs,[]) else none
 | .sq xs=>if c=true then none else some (xs,[])
 | .ref i=>if c=true then none else (aq s i).map λ xs=>(xs,[(i,xs)])
 | _=>none
theorem sC {c:Bool}{ρ:List Addr}{H:Hp}{s:S}{v:AV}{xs:List AV}{gs:Gd}{x:V}(h:sD c v s=some (xs,gs)) (sr:SR T ρ s H)(va:VR T ρ H v x):∃ a,x=.ref a/\(∃ vs,rR c T.K H a vs)/\∀ ρ' s' H',Up ρ H ρ' H'->SR T ρ' s' H'->mG gs s'->∃ vs,rR c T.K H' a vs/\aR T ρ' H' xs vs:=by
 cases v with
 | tup ys=>
  have h:(if c=true then some (ys,[]) else none)=some (xs,gs):=h
  split at h
  ·rename_i hc
   cases h
   obtain⟨a,vs,rfl,h1,k⟩:=va.c6
   refine⟨a,rfl,⟨vs,by unfold rR;rw[if_pos hc];exact h1⟩,λ ρ' s' H' u kc _=>⟨vs,by unfold rR;rw[if_pos hc];exact u.HU h1,k.up u⟩⟩
  ·cases h
 | sq ys=>
  have h:(if c=true then none else some (ys,[]))=some (xs,gs):=h
  split at h
  ·cases h
  ·rename_i hc
   cases h
   obtain⟨a,vs,rfl,h1,k⟩:=va.f6
   refine⟨a,rfl,⟨vs,by unfold rR;rw[if_neg hc];exact h1.xp⟩,λ ρ' s' H' u kc _=>⟨vs,by unfold rR;rw[if_neg hc];exact(u.Lr h1).xp,k.up u⟩⟩
 | ref i=>
  have h:(if c=true then none else (aq s i).map λ xs=>(xs,[(i,xs)]))=some (xs,gs):=h
  split at h
  ·cases h
  ·rename_i hc
   cases e:aq s i with
   | none=>rw[e]at h;cases h
   | some ys=>
    rw[e]at h
    cases h
    obtain⟨a,vs,rfl,ea,h1,k⟩:=sr.dN (ay e) va
    refine⟨a,rfl,⟨vs,by unfold rR;rw[if_neg hc];exact fJ.of h1⟩,λ ρ' s' H' u kc g=>?_⟩
    obtain⟨b,ws,eb,_,h2,k2⟩:=kc.dN (ay ((m5 i _ s').mp g)) (VR.up u va)
    cases eb
    exact⟨ws,by unfold rR;rw[if_neg hc];exact fJ.of h2,k2⟩
 | _=>cases h
theorem CL {g h:Gd}{s:S}(k:mG (g++h) s):mG g s/\mG h s:=⟨λ p hp=>k p (List.mem_append_left _ hp),λ p hp=>k p (List.mem_append_right _ hp)⟩
end
end Mm
namespace Mm
open PySem PySem.W PyProof.Rows
def gM {α:Type}(lt:Nat->Nat->Bool):KasT α->α
 | .ret a=>a
 | .ask i j k=>gM lt (k (lt i j))
theorem pW {α β:Type}(lt:Nat->Nat->Bool)(f:α->KasT β):∀ t:KasT α,gM lt (t.bind f)=gM lt (f (gM lt t))
 | .ret a=>rfl
 | .ask i j k=>pW lt f (k (lt i j))
section
variable {O:KeyOrd}{key:Nat->O.α}
def pk (key:Nat->O.α)(p:Array Nat)(i:Nat):O.α:=key (p.getD i 0)
abbrev pQ (O:KeyOrd)(key:Nat->O.α):Nat->Nat->Bool:=λ i j=>O.blt (key i) (key j)
def KP (key:Nat->O.α)(p:Array Nat)(k:Nat):Prop:=∀ i j,i<=j->j < k->O.kle (pk key p i) (pk key p j)
theorem rh {p q:Array Nat}{i j:Nat}(h:p[i]? = q[j]?):p.getD i 0=q.getD j 0:=by
 rw[Array.getD_eq_getD_getElem?,Array.getD_eq_getD_getElem?,h]
theorem nI {p:Array Nat}{k:Nat}(hs:KP key p k):∀ (f l r:Nat),l<=r->r<=k->r - l<=f->(∀ i,i < l->O.kle (pk key p i) (pk key p k))->(∀ i,r<=i->i < k->O.klt (pk key p k) (pk key p i))->
  let m:=gM (pQ O key) (kas_place p k f l r)
  m<=k/\(∀ i,i < m->O.kle (pk key p i) (pk key p k))/\∀ i,m<=i->i < k->O.klt (pk key p k) (pk key p i)
 | 0,l,r,h1,h2,h3,h4,h5=>⟨(by show l<=k;omega),h4,λ i h6 h7=>h5 i (by have h6:l<=i:=h6;omega) h7⟩
 | f+1,l,r,h1,h2,h3,h4,h5=>by
  by_cases hl:l ≥ r
  ·have e:gM (pQ O key) (kas_place p k (f+1) l r)=l:=by
    show gM (pQ O key) (if l ≥ r then .ret l else _)=l
    rw[if_pos hl];rfl
   rw[e]
   exact⟨by omega,h4,λ i h6 h7=>h5 i (by omega) h7⟩
  ·by_cases c:pQ O key (p.getD k 0) (p.getD ((l+r) / 2) 0)=true
   ·have e:gM (pQ O key) (kas_place p k (f+1) l r)=gM (pQ O key) (kas_place p k f l ((l+r) / 2)):=by
     show gM (pQ O key) (if l ≥ r then .ret l else .ask (p.getD k 0) (p.getD ((l+r) / 2) 0) λ c=>if c=true then kas_place p k f l ((l+r) / 2) else kas_place p k f ((l+r) / 2+1) r)=_
     rw[if_neg hl]
     show gM (pQ O key) (if pQ O key (p.getD k 0) (p.getD ((l+r) / 2) 0)=true then kas_place p k f l ((l+r) / 2) else kas_place p k f ((l+r) / 2+1) r)=_
     rw[if_pos c]
    rw[e]
    exact nI hs f l ((l+r) / 2) (by omega) (by omega) (by omega) h4 λ i h6 h7=>KeyOrd.klt_of_klt_of_kle (O:=O) c (hs _ i h6 h7)
   ·have e:gM (pQ O key) (kas_place p k (f+1) l r)=gM (pQ O key) (kas_place p k f ((l+r) / 2+1) r):=by
     show gM (pQ O key) (if l ≥ r then .ret l else .ask (p.getD k 0) (p.getD ((l+r) / 2) 0) λ c=>if c=true then kas_place p k f l ((l+r) / 2) else kas_place p k f ((l+r) / 2+1) r)=_
     rw[if_neg hl]
     show gM (pQ O key) (if pQ O key (p.getD k 0) (p.getD ((l+r) / 2) 0)=true then kas_place p k f l ((l+r) / 2) else kas_place p k f ((l+r) / 2+1) r)=_
     rw[if_neg c]
    rw[e]
    exact nI hs f ((l+r) / 2+1) r (by omega) h2 (by omega) (λ i hi=>KeyOrd.kle_trans (hs i ((l+r) / 2) (by omega) (by omega)) (KeyOrd.kle_of_not_klt c)) h5
theorem Cv {p:Array Nat}{k l:Nat}(hk:k < p.size)(hl:l<=k)(i:Nat):pk key (bubble p k (k - l)) i=if i=l then pk key p k else if l < i/\i<=k then pk key p (i - 1) else pk key p i:=by
 have h:=getElem?_bubble (xs:=p) hk (k - l) (by omega) i
 rw[show k - (k - l)=l by omega]at h
 by_cases hi:i=l
 ·rw[if_pos hi]at h ⊢;unfold pk;rw[rh h]
 ·rw[if_neg hi]at h ⊢
  by_cases h2:l < i/\i<=k
  ·rw[if_pos h2]at h ⊢;unfold pk;rw[rh h]
  ·rw[if_neg h2]at h ⊢;unfold pk;rw[rh h]
theorem ax:∀ (f:Nat)(p:Array Nat)(k:Nat),k+f<=p.size->KP key p k->
  let r:=gM (pQ O key) (kas_bin f p k)
  KP key r (k+f)/\r.size=p.size/\r.Perm p
 | 0,p,k,h1,h=>⟨h,rfl,Array.Perm.refl _⟩
 | f+1,p,k,h1,h=>by
  obtain⟨b1,b2,b3⟩:=nI (key:=key) h k 0 k (Nat.zero_le _) (Nat.le_refl _) (by omega) (λ i hi=>by omega) (λ i h2 h3=>by omega)
  have e:gM (pQ O key) (kas_bin (f+1) p k)=gM (pQ O key) (kas_bin f (bubble p k (k - gM (pQ O key) (kas_place p k k 0 k))) (k+1)):=by
   show gM (pQ O key) ((kas_place p k k 0 k).bind λ l=>kas_bin f (bubble p k (k - l)) (k+1))=_
   rw[pW]
  rw[e]
  generalize gM (pQ O key) (kas_place p k k 0 k)=l at *
  have sz:(bubble p k (k - l)).size=p.size:=bubble_size _ _ _
  have kb:∀ i,pk key (bubble p k (k - l)) i=if i=l then pk key p k else if l < i/\i<=k then pk key p (i - 1) else pk key p i:=Cv (by omega) b1
  have s1:KP key (bubble p k (k - l)) (k+1):=λ i j h2 h3=>by
   rw[kb,kb]
   by_cases hi:i=l
   ·rw[if_pos hi]
    by_cases hj:j=l
    ·rw[if_pos hj];exact KeyOrd.kle_refl _
    ·rw[if_neg hj,if_pos (by omega)]
     exact KeyOrd.kle_of_klt (b3 (j - 1) (by omega) (by omega))
   ·rw[if_neg hi]
    by_cases Hs:l < i/\i<=k
    ·rw[if_pos Hs,if_neg (by omega),if_pos (by omega)]
     exact h _ _ (by omega) (by omega)
    ·rw[if_neg Hs]
     by_cases hj:j=l
     ·rw[if_pos hj];exact b2 i (by omega)
     ·rw[if_neg hj]
      by_cases Oj:l < j/\j<=k
      ·rw[if_pos Oj];exact h _ _ (by omega) (by omega)
      ·rw[if_neg Oj];exact h _ _ h2 (by omega)
  obtain⟨c1,c2,c3⟩:=ax f (bubble p k (k - l)) (k+1) (by rw[sz];omega) s1
  exact⟨by rw[show k+(f+1)=k+1+f by omega];exact c1,by rw[c2,sz],c3.trans (bubble_perm _ _ _)⟩
end
end Mm
namespace Mm
open PySem PySem.W PyProof.Rows
section
variable {prog:Program}{w:World}{A:Around}{E:Value->Shared->Prop}{s:Shared}{a:Addr}{vs:List Value}
end
end Mm
namespace L2
open PySem PySem.Spec PyProof.Rows
theorem b8.nr {P:Program}{w:World}{H:Hp}{h:Heap}{a:Addr}{o:HO}(x:b8 P w H h a o):∃ u,h.get? a=some u:=by
 cases o with
 | lst xs=>obtain⟨_,_,_,_,e⟩:=x;exact⟨_,e⟩
 | tup xs=>obtain⟨_,_,_,⟨_,e,_⟩⟩:=x;exact⟨_,e⟩
 | dK kvs=>obtain⟨_,_,_,_,o,_,_,e,_⟩:=x;exact⟨_,e⟩
 | dT kvs=>obtain⟨_,_,_,_,o,_,_,e,_⟩:=x;exact⟨_,e⟩
 | set S n=>obtain⟨o,_,_,_,e,_⟩:=x;exact⟨_,e⟩
 | ins C dx fs=>obtain⟨_,_,_,e,_⟩:=x;exact⟨_,e⟩
 | own y=>obtain⟨_,e⟩:=x;exact⟨_,e⟩
 | xd fs=>obtain⟨_,⟨_,_,_,e,_⟩,_⟩:=x;exact⟨_,e⟩
 | Kk lo hi=>obtain⟨_,_,_,e⟩:=x;exact⟨_,e⟩
 | qc ob u=>obtain⟨e,_⟩:=x;exact⟨_,e⟩
 | Bb ps=>exact⟨_,show h.get? a=some _ from x⟩
 | met f y=>exact⟨_,show h.get? a=some _ from x⟩
 | ext φ=>obtain⟨_,⟨_,e⟩,_⟩:=x;exact⟨_,e⟩
theorem Inv.grown {X:Cx}{pins:List (Addr × Obj)}{σ:St}{H H':Hp}{s:Shared}{h':Heap}{t':Nat}(I:Inv X pins σ H s)(k:∀ b u,s.heap.get? b=some u->h'.get? b=some u)(e:∀ b u,s.heap.get? b=some u->H' b=H b)
  (new:∀ b o,s.heap.get? b=none->H' b=some o->b8 X.prog X.w H' h' b o):Inv X pins σ H' { s with heap:=h',toks:=t' }:=by
 have old:∀ b o,H b=some o->H' b=some o:=λ b o z=>by
  obtain⟨u,hu⟩:=(I.bN b o z).nr
  rw[e b u hu];exact z
 refine I.un ⟨λ b u q _ _ _=>k b u q,λ b u q _ _ _=>⟨u.slots,k b u q⟩,λ b u q n _=>by rw[e b u q];exact n,λ b u q _=>⟨u,k b u q⟩,λ b xs q=>old b _ q,λ b u xs q=>old b _ q,λ b ps q=>⟨#[],by rw[old b _ q];simp⟩⟩ λ b o z=>?_
 cases hb:s.heap.get? b with
 | some u=>
  rw[e b u hb]at z
  exact(I.bN b o z).sv (λ c u _ q=>k c u q) (λ c q=>old c _ q) λ c xs q=>old c _ q
 | none=>exact new b o hb z
def mC (a b:Str):Bool:=!decide (b.cps.toList < a.cps.toList)
def xT (a:Str):List Str->List Str
 | []=>[a]
 | b :: r=>if mC a b=true then a :: b :: r else b :: xT a r
def df:List Str->List Str
 | []=>[]
 | a :: r=>xT a (df r)
theorem lU (a:Str):∀ l,(xT a l).Perm (a :: l)
 | []=>.refl _
 | b :: r=>by
  unfold xT
  split
  ·exact .refl _
  ·exact((lU a r).cons b).trans (.swap a b r)
theorem eL:∀ l,(df l).Perm l
 | []=>.refl _
 | a :: r=>(lU a (df r)).trans ((eL r).cons a)
abbrev oS:KeyOrd:=strKind.toKeyOrd
abbrev OL (a:Str):oS.α:=a.cps.toList
theorem kQ {a b:Str}:mC a b=true ↔ oS.kle (OL a) (OL b):=by
 unfold mC KeyOrd.kle
 show(!decide (b.cps.toList < a.cps.toList))=true ↔ decide (b.cps.toList < a.cps.toList)=false
 simp
theorem pV (a b:Str)(h:mC a b≠true):mC b a=true:=by
 rw[kQ]
 refine KeyOrd.kle_of_not_klt λ z=>?_
 exact h (kQ.mpr (KeyOrd.kle_of_klt z))
theorem lP {a b c:Str}(h:mC a b=true)(k:mC b c=true):mC a c=true:=by
 rw[kQ]at *
 exact KeyOrd.kle_trans h k
theorem nZ {a b:Str}(h:mC a b=true)(k:mC b a=true):a=b:=by
 rw[kQ]at *
 have e:a.cps.toList=b.cps.toList:=KeyOrd.kle_antisymm h k
 cases a with|mk x=>cases b with|mk y=>exact congrArg Str.mk (Array.toList_inj.mp e)
theorem zR (a:Str):mC a a=true:=kQ.mpr (KeyOrd.kle_refl _)
theorem mr (a:Str):∀ {l:List Str},l.Pairwise (λ x y=>mC x y=true)->(xT a l).Pairwise (λ x y=>mC x y=true)
 | [],_=>List.pairwise_singleton _ _
 | b :: r,h=>by
  unfold xT
  split
  ·rename_i hb
   refine List.pairwise_cons.mpr ⟨λ x hx=>?_,h⟩
   rcases List.mem_cons.mp hx with rfl|hx
   ·exact hb
   ·exact lP hb ((List.pairwise_cons.mp h).1 x hx)
  ·rename_i hb
   refine List.pairwise_cons.mpr ⟨λ x hx=>?_,mr a (List.pairwise_cons.mp h).2⟩
   rcases List.mem_cons.mp ((lU a r).mem_iff.mp hx) with rfl|hx
   ·exact pV _ _ hb
   ·exact(List.pairwise_cons.mp h).1 x hx
theorem fO:∀ l,(df l).Pairwise (λ x y=>mC x y=true)
 | []=>List.Pairwise.nil
 | a :: r=>mr a (fO r)
theorem mj {α:Type}{le:α->α->Bool}(C4:∀ a b,le a b=true->le b a=true->a=b):∀ {l q:List α},l.Perm q->l.Pairwise (λ x y=>le x y=true)->q.Pairwise (λ x y=>le x y=true)->l=q
 | [],q,p,_,_=>(List.nil_perm.mp p).symm
 | a :: r,q,p,h,k=>by
  cases q with
  | nil=>exact absurd (p.length_eq) (by simp)
  | cons b t=>
   have yo:a=b:=by
    rcases List.mem_cons.mp (p.mem_iff.mp List.mem_cons_self) with e|ha
    ·exact e
    ·rcases List.mem_cons.mp (p.mem_iff.mpr List.mem_cons_self) with e|hb
     ·exact e.symm
     ·exact C4 _ _ ((List.pairwise_cons.mp h).1 b hb) ((List.pairwise_cons.mp k).1 a ha)
   subst yo
   rw[mj C4 p.cons_inv (List.pairwise_cons.mp h).2 (List.pairwise_cons.mp k).2]
theorem jN {l q:List Str}(p:l.Perm q)(h:l.Pairwise (λ x y=>mC x y=true)):l=df q:=
 mj (λ _ _=>nZ) (p.trans (eL q).symm) h (fO q)
theorem hW:∀ {l:List Str},sortedS l=true->l.Pairwise (λ x y=>mC x y=true)
 | [],_=>.nil
 | [a],_=>List.pairwise_singleton _ _
 | a :: b :: r,h=>by
  have h:(!ltCps b.cps.toList a.cps.toList && risingS b r)=true:=h
  rw[Bool.and_eq_true]at h
  have ih:(b :: r).Pairwise (λ x y=>mC x y=true):=hW h.2
  have yo:mC a b=true:=by
   have:=h.1
   rw[ltCps_eq]at this
   exact this
  refine List.pairwise_cons.mpr ⟨λ x hx=>?_,ih⟩
  rcases List.mem_cons.mp hx with rfl|hx
  ·exact yo
  ·exact lP yo ((List.pairwise_cons.mp ih).1 x hx)
theorem ny:∀ {l:List Value}{ks:List Str},l.length=ks.length->(∀ j (hj:j < ks.length),∃ t,l[j]? = some (.str ks[j] t))->StrsAre l ks
 | [],[],_,_=>.nil
 | [],_ :: _,h,_=>by simp at h
 | _ :: _,[],h,_=>by simp at h
 | v :: r,k :: q,h,g=>by
  obtain⟨t,e⟩:=g 0 (by simp)
  simp at e
  subst e
  exact .cons k t (ny (by simpa using h) λ j hj=>by
   obtain⟨t,e⟩:=g (j+1) (by simpa using hj)
   exact⟨t,by simpa using e⟩)
theorem Cu {kvs:List (Key × V)}{vs:List (Key × Value)}(rel:KV kvs vs){ks:List Str}(hk:kvs.map (·.1)=ks.map Sum.inr) {j:Nat}{k:Key}{x:Value}(e:vs[j]? = some (k,x)) (hj:j < ks.length):k=Sum.inr ks[j]:=by
 have h1:(vs.map (·.1))=kvs.map (·.1):=by
  clear hk e
  unfold KV at rel
  induction rel with
  | nil=>rfl
  | cons h _ ih=>rw[List.map_cons,List.map_cons,ih,h.1]
 have h2:(vs.map (·.1))[j]? = some k:=by rw[List.getElem?_map,e];rfl
 rw[h1,hk,List.getElem?_map,List.getElem?_eq_getElem hj]at h2
 exact(Option.some.inj h2).symm
end L2
namespace Mm
open PySem PySem.W PyProof.Rows
section
variable {prog:Program}{w:World}{A:Around}{E:Value->Shared->Prop}{s:Shared}{a:Addr}{vs:List Value}
end
end Mm
namespace L2
open PySem PySem.Spec PyProof.Rows
end L2
namespace Mm
open PySem L2
def gx:List (Key × AV)->Option (List Str)
 | []=>some []
 | (.inr x,_) :: r=>(gx r).map (x :: ·)
 | _ :: _=>none
theorem mi:∀ {kvs:List (Key × AV)}{ks:List Str},gx kvs=some ks->kvs.map (·.1)=ks.map Sum.inr
 | [],_,h=>by cases h;rfl
 | (.inr x,v) :: r,ks,h=>by
  have h:(gx r).map (x :: ·)=some ks:=h
  cases e:gx r with
  | none=>rw[e]at h;cases h
  | some q=>rw[e]at h;cases h;rw[List.map_cons,mi e];rfl
 | (.inl x,v) :: r,ks,h=>by cases h
section
variable {T:Tx}{XE:fU}{X:Cx}{pos:Pos}
end
end Mm
namespace Ro
open PySem L2 Mm
def DF (env:En):Nat:=match (env[(1:Nat)]?:Option (Option AV)) with
 | some (some (.int i))=>i.natAbs+1
 | _=>0
def DD (env:En):Nat:=match (env[(4:Nat)]?:Option (Option AV)) with
 | some (some (.int i))=>i.natAbs+1
 | _=>0
def c8:AV:=.tup [.int 0,.int 1]
def tf:AV:=.tup [.int 1,.int 1]
noncomputable def dI:Ms:=
 (au (fC 0 1 (aa (gp kI (aa (mv 0) ah)) (aa (gp kI (aa (mv 1) ah)) ah)))
 (au (xr (λ env _=>DF env) (cB (af cY (mv 1) (mc (.int 0)))) (fC 0 1 (aa (mv 1) (aa (af cR (mv 0) (mv 1)) ah))))
 (aU (mv 0))))
noncomputable def aS:List AV->S->R AV:=gh 2 dI
noncomputable def vo:Ms:=
 (au (gH (mv 0) (gT 2 (aw (gN 5) (aw (gN 6) cZ))))
 (au (gH (mv 1) (gT 2 (aw (gN 7) (aw (gN 8) cZ))))
 (au (aO 2 (aj 2 aS (aa (mv 6) (aa (mv 8) ah))))
 (au (aO 3 (af av (af bf (mv 5) (af di (mv 8) (mv 2))) (af bf (mv 7) (af di (mv 6) (mv 2)))))
 (au (aO 4 (aj 2 aS (aa (mv 3) (aa (mv 2) ah))))
 (aU (aT (aa (af di (mv 3) (mv 4)) (aa (af bf (af di (mv 6) (mv 2)) (af di (mv 8) (mv 4))) ah)))))))))
noncomputable def jZ:List AV->S->R AV:=gh 9 vo
noncomputable def oQ:Ms:=
 (au (aO 1 (mc c8))
 (au (lD (aV (mv 0)) (gN 2) (aO 1 (aj 2 jZ (aa (mv 1) (aa (mv 2) ah)))))
 (aU (mv 1))))
noncomputable def cC:List AV->S->R AV:=gh 3 oQ
noncomputable def iE:Ms:=
 (aU (aj 2 jZ (aa (mv 1) (aa (aT (aa (cK cn (af ai (mv 0) (mc (.int 0)))) (aa (af ai (mv 0) (mc (.int 1))) ah))) ah))))
noncomputable def bS:List AV->S->R AV:=gh 2 iE
noncomputable def iG:Ms:=
 (au (aO 1 (aF (dm d_ (eh (gW (mv 0) oN (oS (mc (.int 63))))))))
 (au (dU (xY (cB (af bI (mv 1) (aF (bz ah))))) (aO 1 (aF (bz (aa (mc (.int 7)) ah)))) bH)
 (aU (nW [((mc (.str "cells")),(mv 1)),((mc (.str "turn")),(mc (.int 0)))]))))
noncomputable def c_:List AV->S->R AV:=gh 2 iG
noncomputable def jl:Ms:=
 (au (aO 2 (af av (af iW (mv 0) (mc (.str "turn"))) (mc (.int 1))))
 (au (nF (mv 0) (mc (.str "turn")) (mv 2))
 (au (aO 3 (af cR (mv 2) (gp dq (aa (af iW (mv 0) (mc (.str "cells"))) ah))))
 (au (aO 4 (af ai (af iW (mv 0) (mc (.str "cells"))) (mv 3)))
 (au (dU (cB (af jR (mv 4) (af pL (mc (.int 10)) (mc (.int 18))))) (au (gH (gp iV (aa (mv 4) (aa (mv 1) ah))) (gT 2 (aw (dO (af iW (mv 0) (mc (.str "cells"))) (mv 3)) (aw (gN 6) cZ))))
 (aU (mv 6))) bH)
 (au (aO 5 (af cR (af bf (af av (af av (af cR (mv 4) (mc (.int 2147483629))) (af bf (af bf (mv 2) (mv 2)) (mc (.int 7919)))) (mc (.int 11))) (mc (.int 48271))) (mc (.int 2147483647))))
 (au (aO 5 (af cR (af bf (mv 5) (mv 5)) (mc (.int 2147483587))))
 (aU (af cR (af di (af cR (af bf (af av (mv 5) (af bf (mv 2) (mc (.int 104729)))) (mc (.int 39373))) (mc (.int 2147483629))) (mc (.int 64))) (mv 1))))))))))
noncomputable def ar:List AV->S->R AV:=gh 7 jl
noncomputable def jJ:Ms:=
 (au (fC 3 4 (aa (gp kI (aa (mv 0) ah)) (aa (gp kI (aa (mv 1) ah)) ah)))
 (au (xr (λ env _=>DD env) (cB (af jQ (mv 4) (mc (.int 0)))) (fC 3 4 (aa (mv 4) (aa (af cR (mv 3) (mv 4)) ah))))
 (au (aO 2 (yl (cB (af ee (mv 1) (mc (.int 0)))) (cK cn (mc (.int 1))) (mc (.int 1))))
 (aU (aT (aa (af di (af bf (mv 2) (mv 0)) (mv 3)) (aa (af di (af bf (mv 2) (mv 1)) (mv 3)) ah)))))))
noncomputable def eX:List AV->S->R AV:=gh 5 jJ
noncomputable def oR:Ms:=
 (au (gH (aT (aa (mc (.int 0)) (aa (mc (.int 1)) ah))) (gT 2 (aw (gN 1) (aw (gN 2) cZ))))
 (au (lD (aV (mv 0)) (gT 2 (aw (gN 3) (aw (gN 4) cZ))) (gH (aj 2 eX (aa (af av (af bf (mv 1) (mv 4)) (af bf (mv 3) (mv 2))) (aa (af bf (mv 2) (mv 4)) ah))) (gT 2 (aw (gN 1) (aw (gN 2) cZ)))))
 (aU (aT (aa (mv 1) (aa (mv 2) ah))))))
noncomputable def dG:List AV->S->R AV:=gh 5 oR
noncomputable def lj:Ms:=
 (aU (aj 2 eX (aa (af bf (af ai (mv 0) (mc (.int 0))) (af ai (mv 1) (mc (.int 0)))) (aa (af bf (af ai (mv 0) (mc (.int 1))) (af ai (mv 1) (mc (.int 1)))) ah))))
noncomputable def k_:List AV->S->R AV:=gh 2 lj
end Ro
namespace Sx
open PySem
def um (xs:Array Nat):Prop:=∀ (i j:Nat) (a b:Nat),i < j->xs[i]? = some a->xs[j]? = some b->a < b
theorem getD_at {xs:Array Nat}{m d:Nat}(h:m < xs.size):∃ a,xs[m]? = some a/\xs.getD m d=a:=⟨xs[m],by simp[h],by simp[Array.getD,h]⟩
theorem oP (xs:Array Nat)(h:um xs)(j:Nat):∀ (f lo hi:Nat),hi - lo<=f->lo<=hi->hi<=xs.size->(∀ i a,i < lo->xs[i]? = some a->a < j)->(∀ i a,hi<=i->xs[i]? = some a->j<=a)->
  SetTable.below.go xs j f lo hi<=xs.size/\(∀ i a,i < SetTable.below.go xs j f lo hi->xs[i]? = some a->a < j)/\(∀ i a,SetTable.below.go xs j f lo hi<=i->xs[i]? = some a->j<=a)
 | 0,lo,hi,h1,h2,h3,h4,h5=>by
  have:lo=hi:=by omega
  subst this
  exact⟨h3,h4,h5⟩
 | f+1,lo,hi,h1,h2,h3,h4,h5=>by
  unfold SetTable.below.go
  by_cases hl:lo < hi
  ·rw[if_pos hl]
   have hm:(lo+hi) / 2 < xs.size:=by omega
   obtain⟨a,e1,e2⟩:=getD_at (d:=j) hm
   dsimp only
   rw[e2]
   by_cases ha:a < j
   ·rw[if_pos ha]
    refine oP xs h j f _ hi (by omega) (by omega) h3 (λ i b wC eb=>?_) h5
    rcases Nat.lt_or_ge i ((lo+hi) / 2) with q|q
    ·exact Nat.lt_trans (h i _ b a q eb e1) ha
    ·have:i=(lo+hi) / 2:=by omega
     subst this
     rw[e1]at eb;cases eb;exact ha
   ·rw[if_neg ha]
    refine oP xs h j f lo _ (by omega) (by omega) (by omega) h4 λ i b wC eb=>?_
    rcases Nat.lt_or_ge ((lo+hi) / 2) i with q|q
    ·exact Nat.le_of_lt (Nat.lt_of_le_of_lt (Nat.le_of_not_lt ha) (h _ i a b q e1 eb))
    ·have:i=(lo+hi) / 2:=by omega
     subst this
     rw[e1]at eb;cases eb;exact Nat.le_of_not_lt ha
  ·rw[if_neg hl]
   have:lo=hi:=by omega
   subst this
   exact⟨h3,h4,h5⟩
theorem ug {xs:Array Nat}(h:um xs)(j:Nat):SetTable.below xs j<=xs.size/\(∀ i a,i < SetTable.below xs j->xs[i]? = some a->a < j)/\(∀ i a,SetTable.below xs j<=i->xs[i]? = some a->j<=a):=
 oP xs h j xs.size 0 xs.size (by omega) (Nat.zero_le _) (Nat.le_refl _) (λ _ _ h=>absurd h (Nat.not_lt_zero _)) λ i a hi e=>by
  have:=(Array.getElem?_eq_some_iff.mp e).1
  omega
theorem qV {α:Type}(xs:Array α)(p:Nat)(x:α)(hp:p<=xs.size)(i:Nat):(SetTable.insertAt xs p x)[i]? = if i < p then xs[i]? else if i=p then some x else xs[i - 1]?:=by
 rw[<-Array.getElem?_toList,SetTable.toList_insertAt]
 have hl:(xs.toList.take p).length=p:=by simp;omega
 by_cases h1:i < p
 ·rw[if_pos h1,List.getElem?_append_left (by omega),List.getElem?_take,if_pos h1,Array.getElem?_toList]
 ·rw[if_neg h1,List.getElem?_append_right (by omega),hl]
  by_cases h2:i=p
  ·subst h2;simp
  ·rw[if_neg h2]
   obtain⟨k,rfl⟩:∃ k,i=p+1+k:=⟨i - p - 1,by omega⟩
   rw[show p+1+k - p=k+1 by omega,List.getElem?_cons_succ,List.getElem?_drop,show p+1+k - 1=p+k by omega,Array.getElem?_toList]
theorem sF {xs:Array Nat}(h:um xs){j:Nat}(hj:xs[SetTable.below xs j]?≠some j):um (SetTable.insertAt xs (SetTable.below xs j) j):=by
 obtain⟨b1,b2,b3⟩:=ug h j
 intro i k a b Jx ea eb
 rw[qV _ _ _ b1]at ea eb
 have gt:∀ m c,SetTable.below xs j<=m->xs[m]? = some c->j < c:=λ m c hm ec=>by
  rcases Nat.lt_or_eq_of_le (b3 m c hm ec) with q|q
  ·exact q
  ·subst q
   rcases Nat.lt_or_eq_of_le hm with z|z
   ·cases e0:xs[SetTable.below xs j]? with
    | none=>
     have h1:=(Array.getElem?_eq_some_iff.mp ec).1
     have h2:=Array.getElem?_eq_none_iff.mp e0
     omega
    | some c0=>
     have:=h _ m c0 j z e0 ec
     have:=b3 _ c0 (Nat.le_refl _) e0
     omega
   ·rw[z]at hj;exact absurd ec hj
 split at ea
 ·rename_i h1
  split at eb
  ·exact h i k a b Jx ea eb
  ·rename_i h2
   split at eb
   ·cases eb;exact b2 i a h1 ea
   ·exact Nat.lt_trans (b2 i a h1 ea) (gt (k - 1) b (by omega) eb)
 ·rename_i h1
  rw[if_neg (by omega)]at eb
  split at ea
  ·rename_i h2
   cases ea
   rw[if_neg (by omega)]at eb
   exact gt (k - 1) b (by omega) eb
  ·rename_i h2
   rw[if_neg (by omega)]at eb
   exact h (i - 1) (k - 1) a b (by omega) ea eb
theorem sH {t:SetTable}{h:Int}(hd:t.dummies=#[]):∀ (f:Nat) (p:SetTable.Probe) (m:SetTable.Met),p.dummy=none->SetTable.probe.go t (λ _=>h+1) h f p=some m->∃ j,m=.empty j none/\t.slot j=.empty
 | 0,p,m,_,e=>by cases e
 | f+1,p,m,hp,e=>by
  unfold SetTable.probe.go at e
  cases hs:t.slot p.j with
  | empty=>
   rw[hs]at e
   cases e
   exact⟨p.j,by rw[hp],hs⟩
  | dummy=>
   exfalso
   unfold SetTable.slot at hs
   dsimp only at hs
   split at hs
   ·cases hs
   ·have:SetTable.has t.dummies p.j=false:=by rw[hd];rfl
    rw[this]at hs
    cases hs
  | live i=>
   rw[hs]at e
   dsimp only at e
   rw[if_neg (by simp;omega)]at e
   refine sH hd f _ m ?_ e
   unfold SetTable.advance
   split
   ·exact hp
   ·exact hp
theorem CM {t:SetTable}{h:Int}(hd:t.dummies=#[]){sl:Nat}{wd:Bool}(e:t.freeSlot h=some (sl,wd)):t.place[SetTable.below t.place sl]?≠some sl:=by
 unfold SetTable.freeSlot at e
 cases q:t.probe (λ _=>h+1) h (t.probeStart h) with
 | none=>rw[q]at e;cases e
 | some m=>
  rw[q]at e
  obtain⟨j,rfl,hs⟩:=sH hd _ _ m rfl q
  cases e
  intro z
  unfold SetTable.slot at hs
  dsimp only at hs
  simp only[Option.getD_none]at z
  rw[z]at hs
  simp at hs
structure Good (bt:Bool)(n:Nat)(t:SetTable):Prop where
 fits:t.fits n=true
 M6:t.dummies=#[]
 led:bt=false->t.led=true
 rise:t.plain=true->um t.place
theorem vd (bt:Bool):Good bt 0 (.fresh 0 0 (!bt)):=⟨rfl,rfl,λ h=>by rw[h];rfl,λ _ i j a b _ e=>by simp[SetTable.fresh]at e⟩
theorem Good.yI {bt:Bool}{n:Nat}{t:SetTable}(g:Good bt n t)(m:Nat):Good bt m (t.standIn m):=⟨SetTable.standIn_fits t m,rfl,g.led,λ h=>by cases h⟩
theorem Good.plain {bt:Bool}{n:Nat}{t:SetTable}(g:Good bt n t):Good bt n { t with plain:=false }:=⟨SetTable.fits_plain_off g.fits,g.M6,g.led,λ h=>by cases h⟩
theorem Good.new {bt:Bool}{es:Array (Int × Value)}{t:SetTable}(g:Good bt es.size t)(h:Int)(x:Value):Good bt (layNew t es h x).1.size (layNew t es h x).2.1:=by
 have hf:=layNew_fits t es h x
 unfold layNew at hf ⊢
 cases e:t.freeSlot h with
 | none=>dsimp only;rw[Array.size_push];exact g.yI _
 | some p=>
  obtain⟨sl,wd⟩:=p
  rw[e]at hf
  dsimp only at hf ⊢
  unfold SetTable.orStandIn at hf ⊢
  split
  ·refine⟨by assumption,?_,g.led,λ hp=>?_⟩
   ·show(if SetTable.has t.dummies sl then SetTable.eraseAt t.dummies (SetTable.below t.dummies sl) else t.dummies)=#[]
    rw[g.M6];rfl
   ·exact sF (g.rise hp) (CM g.M6 e)
  ·refine⟨SetTable.standIn_fits _ _,rfl,g.led,λ h=>by cases h⟩
theorem xw {l:List Nat}(h:l.Pairwise (· < ·)):um l.toArray:=λ i j a b tI ea eb=>by
 rw[List.getElem?_toArray]at ea eb
 obtain⟨h1,e1⟩:=List.getElem?_eq_some_iff.mp ea
 obtain⟨h2,e2⟩:=List.getElem?_eq_some_iff.mp eb
 rw[<-e1,<-e2]
 exact List.pairwise_iff_getElem.mp h i j h1 h2 tI
theorem Good.HZ {bt:Bool}{es:Array (Int × Value)}{t:SetTable}(g:Good bt es.size t)(wanted:Nat):Good bt (relayAll t es wanted).1.size (relayAll t es wanted).2.1:=by
 have hf:=relayAll_fits t es wanted
 unfold relayAll at hf ⊢
 cases e:t.relaid (es.map (·.1)) wanted with
 | none=>exact g.yI _
 | some p=>
  obtain⟨t',order⟩:=p
  rw[e]at hf
  dsimp only at hf ⊢
  split
  ·rename_i hc
   rw[if_pos hc]at hf
   unfold SetTable.relaid SetTable.laid at e
   cases e1:SetTable.layClean (SetTable.sizeAbove wanted - 1) (es.map (·.1)) with
   | none=>rw[e1]at e;cases e
   | some owner=>
    rw[e1]at e
    cases e
    refine⟨hf,rfl,g.led,λ _=>xw ?_⟩
    rw[List.map_filterMap]
    have hr:(List.range (SetTable.sizeAbove wanted - 1+1)).Pairwise (· < ·):=List.pairwise_lt_range
    refine List.Pairwise.filterMap _ (λ a b yo a' Ox b' g9=>?_) hr
    have f1:∀ {c c':Nat},c'∈((Option.map (λ x=>(c,x)) (owner.getD c none)).map (·.1))->c'=c:=λ {c c'} hc=>by
     cases q:owner.getD c none with
     | none=>rw[q]at hc;cases hc
     | some z=>rw[q]at hc;cases hc;rfl
    rw[f1 Ox,f1 g9]
    exact yo
  ·exact g.yI _
end Sx
namespace Sx
open PySem PyProof.Rows
def bT (w:World):Bool:=w.params.followText "set-order"
def eG {prog:Program}{w:World}{K:Type} [DecidableEq K] (knd:PySem.KeyKind prog w K):List Value->List K->Prop
 | [],[]=>True
 | v :: vs,k :: ks=>knd.is k v=true/\eG knd vs ks
 | _,_=>False
def iK {K:Type} [DecidableEq K] (ks:List K)(k:K):List K:=if k∈ks then ks else ks++[k]
abbrev bY (es:Array (Int × Value)) (ep:Nat)(t:SetTable):Obj:={ cls:=.type "set",dict:=none,data:=.set es ep t,slots:=#[] }
section
variable {prog:Program}{w:World}{K:Type} [DecidableEq K] {knd:PySem.KeyKind prog w K}{A:Around}{E:Value->Shared->Prop}{s:Shared}{a:Addr}{ks:List K}{k:K}{x:Value}
theorem eG.length:∀ {vs:List Value}{ks:List K},eG knd vs ks->vs.length=ks.length
 | [],[],_=>rfl
 | _ :: _,_ :: _,h=>by rw[List.length_cons,List.length_cons,eG.length h.2]
 | [],_ :: _,h=>h.elim
 | _ :: _,[],h=>h.elim
theorem eG.app:∀ {vs HC:List Value}{ks jF:List K},eG knd vs ks->eG knd HC jF->eG knd (vs++HC) (ks++jF)
 | [],_,[],_,_,h=>h
 | _ :: _,_,_ :: _,_,h,h'=>⟨h.1,eG.app h.2 h'⟩
 | [],_,_ :: _,_,h,_=>h.elim
 | _ :: _,_,[],_,h,_=>h.elim
theorem eG.perm {vs HC:List Value}(p:HC.Perm vs):∀ {ks:List K},eG knd vs ks->∃ jF,jF.Perm ks/\eG knd HC jF:=by
 induction p with
 | nil=>intro ks h;exact⟨ks,.refl _,h⟩
 | cons v _ ih=>
  intro ks h
  cases ks with
  | nil=>exact h.elim
  | cons k ks=>obtain⟨jF,p,q⟩:=ih h.2;exact⟨k :: jF,p.cons k,h.1,q⟩
 | swap u v l=>
  intro ks h
  cases ks with
  | nil=>exact h.elim
  | cons k ks=>
   cases ks with
   | nil=>exact h.2.elim
   | cons j ks=>exact⟨j :: k :: ks,.swap _ _ _,h.2.1,h.1,h.2.2⟩
 | trans _ _ Mc Mb=>intro ks h;obtain⟨k1,p1,q1⟩:=Mb h;obtain⟨k2,p2,q2⟩:=Mc q1;exact⟨k2,p2.trans p1,q2⟩
theorem eG.mem:∀ {vs:List Value}{ks:List K},eG knd vs ks->∀ k,k∈ks ↔ ∃ v∈vs,knd.is k v=true
 | [],[],_,k=>by simp
 | v :: vs,j :: ks,h,k=>by
  rw[List.mem_cons,eG.mem h.2 k]
  constructor
  ·rintro(rfl|⟨u,h1,h2⟩)
   ·exact⟨v,List.mem_cons_self,h.1⟩
   ·exact⟨u,List.mem_cons_of_mem _ h1,h2⟩
  ·rintro⟨u,h1,h2⟩
   rcases List.mem_cons.mp h1 with rfl|h1
   ·exact .inl (knd.inj _ _ _ h2 h.1)
   ·exact .inr ⟨u,h1,h2⟩
 | [],_ :: _,h,_=>h.elim
 | _ :: _,[],h,_=>h.elim
def gw (knd:PySem.KeyKind prog w K)(h:Heap)(a:Addr)(ks:List K):Prop:=
 ∃ es ep t jF,h.get? a=some (bY es ep t)/\Good (bT w) es.size t/\es.size < scanBound/\ElemsOf knd es.toList/\eG knd (es.toList.map (·.2)) jF/\jF.Perm ks/\ks.Nodup
theorem vI {es:Array (Int × Value)}{ep:Nat}{t:SetTable}{es':Array (Int × Value)}{t':SetTable}(h:s.heap.get? a=some (bY es ep t)):(s.heap.update a (Obj.putSet es' t')).get? a=some (bY es' (ep+1) t'):=by
 have:=Heap.get?_update_self (Obj.putSet es' t') h (by rw[putSet_of es' t' rfl];rfl)
 rw[putSet_of es' t' rfl]at this
 exact this
theorem set_tail {g:Bool->Sem Unit}(hg:∀ (b:Bool)(s₁:Shared)(Q':Unit->Shared->Prop),Q' () s₁->wpAny (model prog w) A (g b) Q' E s₁)
  {es:Array (Int × Value)}{ep:Nat}{t:SetTable}(ho:s.heap.get? a=some (bY es ep t)) {mI:Array (Int × Value)}{t2:SetTable}{L':List K}(g2:Good (bT w) mI.size t2) (GB:mI.size < scanBound) (Gv:ElemsOf knd mI.toList)
  (hk:∃ jF,eG knd (mI.toList.map (·.2)) jF/\jF.Perm L') (nd:L'.Nodup) {wasDummy:Bool}{R:Option Bool->Shared->Prop}
  (h:∀ h',Heap.SameBut a s.heap h'->gw knd h' a L'->R (some true) { s with heap:=h' }) :
  wpAny (model prog w) A (do
    storeSet a mI t2
    if (!wasDummy && t2.tooFull)=true then do
      g (relayAll t2 mI (SetTable.grown mI.size)).2.2
      storeSet a (relayAll t2 mI (SetTable.grown mI.size)).1 (relayAll t2 mI (SetTable.grown mI.size)).2.1
      pure (some true)
     else pure (some true)) R E s:=by
 refine wpAny_bind (wpAny_storeSet_of ho rfl ?_ (fits_of_scanBound GB))
 have aP:=vI (es':=mI) (t':=t2) ho
 have Jq:=Heap.SameBut.update s.heap a (Obj.putSet mI t2)
 obtain⟨jF,q1,q2⟩:=hk
 split
 ·have hp:=relayAll_perm t2 mI (SetTable.grown mI.size)
  have gr:=g2.HZ (SetTable.grown mI.size)
  generalize relayAll t2 mI (SetTable.grown mI.size)=Rl at hp gr ⊢
  obtain⟨OG,t3,OB⟩:=Rl
  dsimp only at hp gr ⊢
  have hsz:OG.size=mI.size:=by rw[<-Array.length_toList,hp.length_eq,Array.length_toList]
  refine wpAny_bind (hg _ _ _ ?_)
  refine wpAny_bind (wpAny_storeSet_of aP rfl ?_ (fits_of_scanBound (by rw[hsz];exact GB)))
  obtain⟨k2,p2,q3⟩:=eG.perm (hp.map (·.2)) q1
  refine wpAny_pure (h _ (Jq.trans (Heap.SameBut.update _ a _)) ⟨OG,_,t3,k2,vI (s:={ s with heap:=s.heap.update a (Obj.putSet mI t2) }) aP,gr,by rw[hsz];exact GB,Gv.perm hp,q3,p2.trans q2,nd⟩)
 ·exact wpAny_pure (h _ Jq ⟨mI,_,t2,jF,aP,g2,GB,Gv,q1,q2,nd⟩)
theorem yP {Q:Bool->Shared->Prop}(Ag:knd.is k x=true)(oh:x.scannable=true)(hS:gw knd s.heap a ks)(Jr:ks.length+1 < scanBound)
  (h:∀ h' b,Heap.SameBut a s.heap h'->gw knd h' a (iK ks k)->Q b { s with heap:=h' }):wpAny (model prog w) A (setAddHashed a x (knd.hash k)) Q E s:=by
 obtain⟨es,ep,t,jF,ho,g,hb,Gv,hK,hp,nd⟩:=id hS
 have hlen:es.size=ks.length:=by rw[<-hp.length_eq,<-hK.length,List.length_map,Array.length_toList]
 have GB:es.size+1 < scanBound:=by rw[hlen];exact Jr
 unfold setAddHashed setAddHashedIn
 refine wpAny_holding (wpAny_bind (wpAny_setState_of ho rfl g.fits ?_))
 dsimp only
 rw[byScan_of oh hb Gv]
 simp only[↓reduceIte]
 unfold setAddByScan
 refine wpAny_bind ?_
 refine wpAny_bind (wpAny_rule ?_)
 refine wpAny_bind (wpAny_setScan_of Ag ho rfl g.fits Gv ?_)
 cases hr:List.findIdx? (λ e=>knd.is k e.2) es.toList with
 | some j=>
  dsimp only
  obtain⟨hj,Mu,_⟩:=List.findIdx?_eq_some_iff_getElem.mp hr
  have hm:k∈ks:=hp.mem_iff.mp ((hK.mem k).mpr ⟨_,List.mem_map.mpr ⟨_,List.getElem_mem hj,rfl⟩,Mu⟩)
  refine wpAny_pure (wpAny_pure ?_)
  have e:s={ s with heap:=s.heap }:=by cases s;rfl
  rw[e]
  exact h s.heap _ (Heap.SameBut.refl a s.heap) (by unfold iK;rw[if_pos hm];exact hS)
 | none=>
  dsimp only
  have hm:k∉ks:=λ hm=>by
   obtain⟨v,h1,h2⟩:=(hK.mem k).mp (hp.mem_iff.mpr hm)
   obtain⟨e,he,rfl⟩:=List.mem_map.mp h1
   have:=List.findIdx?_eq_none_iff.mp hr e he
   rw[h2]at this;cases this
  have Qz:∀ (b:Bool) {s₁:Shared}{Q':Unit->Shared->Prop},Q' () s₁->wpAny (model prog w) A (match b with|true=>rule "set.scan.the-table-gave-way" | false=>pure ()) Q' E s₁:=
   λ b s₁ Q' hq=>by cases b<;>first|exact wpAny_pure hq|exact wpAny_rule hq
  have p8:=layNew_perm t es (knd.hash k) x
  have gn:=g.new (knd.hash k) x
  generalize layNew t es (knd.hash k) x=L at p8 gn ⊢
  obtain⟨mI,t1,wasDummy,QR⟩:=L
  dsimp only at p8 gn ⊢
  rw[Array.toList_push]at p8
  have JA:ElemsOf knd mI.toList:=(Gv.push Ag oh).perm p8
  have JH:mI.size < scanBound:=by rw[<-Array.length_toList,p8.length_eq,List.length_append,Array.length_toList];simpa using GB
  have Oh:∃ k1,eG knd (mI.toList.map (·.2)) k1/\k1.Perm (ks++[k]):=by
   have q:eG knd ((es.toList++[(knd.hash k,x)]).map (·.2)) (jF++[k]):=by rw[List.map_append];exact hK.app ⟨Ag,trivial⟩
   obtain⟨k1,p1,q1⟩:=eG.perm (p8.map (·.2)) q
   exact⟨k1,q1,p1.trans (hp.append_right _)⟩
  have NX:(ks++[k]).Nodup:=List.nodup_append.mpr ⟨nd,by simp,λ z hz y hy e=>by rw[List.mem_singleton.mp hy]at e;subst e;exact hm hz⟩
  have CF:∀ h',Heap.SameBut a s.heap h'->gw knd h' a (ks++[k])->wpAny (model prog w) A (pure true) Q E { s with heap:=h' }:=λ h' Ge JK=>wpAny_pure (h h' _ Ge (by unfold iK;rw[if_neg hm];exact JK))
  refine wpAny_bind (Qz _ ?_)
  split
  ·refine wpAny_bind ?_
   rw[hashByValue_scannable 8 oh]
   refine wpAny_pure ?_
   refine set_tail ?_ ho ?_ JH JA Oh NX ?_
   ·intro b s₁ Q' hq;cases b<;>first|exact wpAny_pure hq|exact wpAny_rule hq
   ·split
    ·exact gn
    ·exact gn.plain
   ·intro h' Ge JK;dsimp only;exact CF h' Ge JK
  ·refine wpAny_bind (wpAny_pure ?_)
   simp only[↓reduceIte]
   refine set_tail ?_ ho gn JH JA Oh NX ?_
   ·intro b s₁ Q' hq;cases b<;>first|exact wpAny_pure hq|exact wpAny_rule hq
   ·intro h' Ge JK;dsimp only;exact CF h' Ge JK
theorem gw.keep {h h':Heap}(hS:gw knd h a ks)(hk:∀ o,h.get? a=some o->h'.get? a=some o):gw knd h' a ks:=let ⟨es,ep,t,jF,ho,r⟩:=hS;⟨es,ep,t,jF,hk _ ho,r⟩
theorem gw.typeIs (hS:gw knd s.heap a ks):s.TypeIs (.ref a) "set":=let ⟨es,ep,t,jF,ho,r⟩:=hS;⟨_,ho,rfl⟩
theorem gw.lt {h:Heap}(hS:gw knd h a ks):a < h.objs.size:=let ⟨es,ep,t,jF,ho,r⟩:=hS;Heap.lt_size ho
end
end Sx
namespace Sx
open PySem PyProof.Rows
theorem oD {α:Type}{l:List α}{i:Nat}(h:i < l.length):(l[i] :: l.eraseIdx i).Perm l:=by
 rw[List.eraseIdx_eq_take_drop_succ]
 refine List.perm_middle.symm.trans ?_
 rw[<-List.drop_eq_getElem_cons h,List.take_append_drop]
theorem vV {α:Type}(next:Nat->Nat):∀ (f k:Nat) (left:List α) (out:Array α),left.length<=f->(pickOrder.go next f k left out).toList.Perm (out.toList++left)
 | 0,k,left,out,h=>by
  have:left=[]:=List.length_eq_zero_iff.mp (by omega)
  subst this
  rw[List.append_nil];exact .refl _
 | f+1,k,left,out,h=>by
  unfold pickOrder.go
  cases left with
  | nil=>simp
  | cons x r=>
   have qX:next k % (x :: r).length < (x :: r).length:=Nat.mod_lt _ (by simp)
   rw[List.getElem?_eq_getElem qX]
   dsimp only
   refine(vV next f (k+1) _ _ (by rw[List.length_eraseIdx_of_lt qX];simp at h ⊢;omega)).trans ?_
   rw[Array.toList_push,List.append_assoc]
   refine List.Perm.append_left _ ?_
   exact(oD qX)
theorem xA {α:Type}(next:Nat->Nat)(xs:Array α):(pickOrder next xs).toList.Perm xs.toList:=by
 have:=vV next xs.size 0 xs.toList #[] (by simp)
 rw[List.nil_append]at this
 exact this
abbrev gA (first:Value)(i:Nat)(a:Addr)(n ep:Nat):Obj:={ cls:=.type "set_iterator",dict:=none,data:=.fields #[first,.int i 0,.ref a,.int n 0,.int ep 0],slots:=#[] }
section
variable {prog:Program}{w:World}{A:Around}{E:Value->Shared->Prop}{s:Shared}{a:Addr}{es:Array (Int × Value)}{ep:Nat}{t:SetTable}
theorem pN {sl i:Nat}{Q:Option (Value × Nat)->Shared->Prop}(hb:bT w=true)(ho:s.heap.get? a=some (bY es ep t)) (g:Good (bT w) es.size t)
  (h:Q (((pickOrder (w.params.setOrder a ep) es)[i]?).map λ e=>(e.2,sl)) s):wpAny (model prog w) A (setNext a sl i ep) Q E s:=by
 unfold setNext setsByText
 refine wpAny_bind (wpAny_setState_of ho rfl g.fits ?_)
 dsimp only
 refine wpAny_bind (wpAny_bind (wpAny_askSetting (wpAny_pure ?_)))
 have g9:(model prog w).w.params.followText "set-order"=true:=hb
 dsimp only
 rw[g9]
 simp only[if_true,bne_self_eq_false,Bool.false_eq_true,if_false]
 unfold setWalk setsByText
 refine wpAny_bind (wpAny_bind (wpAny_setState_of ho rfl g.fits ?_))
 dsimp only
 refine wpAny_bind (wpAny_bind (wpAny_askSetting (wpAny_pure ?_)))
 dsimp only
 rw[g9]
 simp only[if_true]
 refine wpAny_bind (wpAny_askSetting (wpAny_pure (wpAny_pure h)))
theorem nQ {sl i:Nat}{Q:Option (Value × Nat)->Shared->Prop}(hb:bT w=false)(ho:s.heap.get? a=some (bY es ep t)) (g:Good (bT w) es.size t) (hd:(!t.plain && decide (es.size > 1))=false)
  (h:Q (match es[SetTable.below t.place sl]?,t.place[SetTable.below t.place sl]? with|some (_,x),some j=>some (x,j+1)|_,_=>none) s):wpAny (model prog w) A (setNext a sl i ep) Q E s:=by
 unfold setNext setsByText
 refine wpAny_bind (wpAny_setState_of ho rfl g.fits ?_)
 dsimp only
 refine wpAny_bind (wpAny_bind (wpAny_askSetting (wpAny_pure ?_)))
 have g9:(model prog w).w.params.followText "set-order"=false:=hb
 dsimp only
 rw[g9]
 simp only[Bool.false_eq_true,if_false]
 split
 ·rename_i hx
  have hx:(!t.plain && decide (es.size > 1))=true:=hx
  rw[hd]at hx;cases hx
 ·show wpAny _ _ ((if (!t.led && !es.isEmpty)=true then unsupported "set:maker-not-led" else pure PUnit.unit) >>= λ _=>_) _ _ _
  rw[g.led hb]
  simp only[Bool.not_true,Bool.false_and,Bool.false_eq_true,if_false]
  exact wpAny_bind (wpAny_pure (wpAny_pure h))
theorem qi {α:Type}:∀ (n:Nat) (xs:List α) (s:Shared) {Q:List α->Shared->Prop},xs.length<=n->(∀ ys d,ys.Perm xs->Q ys { s with drawn:=d })->wpAny (model prog w) A (drawOrder n xs) Q E s
 | 0,xs,s,Q,hl,h=>by
  have:xs=[]:=List.length_eq_zero_iff.mp (by omega)
  subst this
  unfold drawOrder
  exact wpAny_pure (h [] s.drawn (.refl _))
 | n+1,[],s,Q,hl,h=>by
  unfold drawOrder
  exact wpAny_pure (h [] s.drawn (.refl _))
 | n+1,x :: r,s,Q,hl,h=>by
  unfold drawOrder
  refine wpAny_bind ?_
  have hc:∀ {Q':Nat->Shared->Prop},(∀ i d,i < (x :: r).length->Q' i { s with drawn:=d })->wpAny (model prog w) A (choose .order (x :: r).length) Q' E s:=λ {Q'} hq Γ p hΓ=>by
   show Sem.wp (model prog w) Γ (.choose .order (x :: r).length .pure) _ _ p s
   rw[Sem.wp_choose]
   refine⟨by simp,?_⟩
   have:=hq ((model prog w).w.draws .order (s.drawn.get .order) % (x :: r).length) (s.drawn.bump .order) (Nat.mod_lt _ (by simp))
   first|exact this|(rw[Sem.wp_pure];exact this)|simpa using this
  refine hc λ i d hi=>?_
  rw[List.getElem?_eq_getElem hi]
  dsimp only
  refine wpAny_bind (qi n _ _ (by rw[List.length_eraseIdx_of_lt hi];simp at hl ⊢;omega) λ ys d' p=>wpAny_pure (h _ d' ?_))
  exact(p.cons _).trans (oD hi)
end
end Sx
namespace Sx
open PySem PyProof.Rows
theorem bF:Slot "set_iterator" "__next__" "set_iterator.__next__":=
 .of (owner:="set_iterator") (n:="__next__") (by rw[typeLookup_type,builtinLookup_eq_fast];kernel_rfl) (by decide +kernel) (by decide +kernel) (by decide +kernel)
  (by first|exact .inl (by decide +kernel)|exact .inr (by decide +kernel)) (by rw[isSubtype_type];kernel_rfl)
theorem eY:entryFor table "set_iterator.__next__"=some Builtin.«set_iterator.__next__»:=entryFor_of_tree (by kernel_rfl)
theorem fT (a:Value):argsOk "set_iterator.__next__" ⟨[a],[]⟩:=by unfold argsOk;kernel_rfl
theorem kD:Slot "set_iterator" "__iter__" "set_iterator.__iter__":=
 .of (owner:="set_iterator") (n:="__iter__") (by rw[typeLookup_type,builtinLookup_eq_fast];kernel_rfl) (by decide +kernel) (by decide +kernel) (by decide +kernel)
  (by first|exact .inl (by decide +kernel)|exact .inr (by decide +kernel)) (by rw[isSubtype_type];kernel_rfl)
theorem pw:entryFor table "set_iterator.__iter__"=some Builtin.«dict_keyiterator.__iter__»:=
 entryFor_alias (id':="dict_keyiterator.__iter__") (by kernel_rfl) rfl (by decide +kernel) (by kernel_rfl)
theorem rN (a:Value):argsOk "set_iterator.__iter__" ⟨[a],[]⟩:=by unfold argsOk;kernel_rfl
theorem oF:entryFor table "set.__iter__"=some Builtin.«frozenset.__iter__»:=
 entryFor_alias (id':="frozenset.__iter__") (by kernel_rfl) rfl (by decide +kernel) (by kernel_rfl)
section
variable {prog:Program}{w:World}{A:Around}{E:Value->Shared->Prop}{s:Shared}{a I:Addr}{es:Array (Int × Value)}{ep i sl:Nat}{t:SetTable}
theorem qR {f:Value}{n:Nat}{Q:Value->Shared->Prop}(hit:s.heap.get? I=some (gA f i a n ep)) (h:Q (.ref I) s):wpAny (model prog w) A (pyIter (.ref I)) Q E s:=by
 have hT:s.TypeIs (.ref I) "set_iterator":=⟨_,hit,rfl⟩
 refine wpAny_pyIter_slot hT kD (wpAny_call_entry kD hT pw ?_ (rN _))
 show wpAny _ _ (ret (.ref I)) _ _ s
 exact wpAny_pure ⟨_,rfl,"set_iterator",_,hT,bF.lookup,h⟩
theorem wt {x:Value}{nx:Nat}{Q:Option Value->Shared->Prop}(hit:s.heap.get? I=some (gA (.int sl 0) i a es.size ep)) (ho:s.heap.get? a=some (bY es ep t)) (g:Good (bT w) es.size t)
  (hn:∀ {E:Value->Shared->Prop}{Q:Option (Value × Nat)->Shared->Prop},Q (some (x,nx)) s->wpAny (model prog w) A.in1 (setNext a sl i ep) Q E s)
  (h:∀ h',h'.get? I=some (gA (.int nx 0) (i+1) a es.size ep)->Heap.SameBut I s.heap h'->Q (some x) { s with heap:=h' }):wpAny (model prog w) A (pyNext (.ref I)) Q E s:=by
 have hT:s.TypeIs (.ref I) "set_iterator":=⟨_,hit,rfl⟩
 unfold pyNext
 refine wpAny_bind (wpAny_attempt (wpAny_callSpecial?_slot (name:=Str.ofString "__next__") hT bF (wpAny_call_entry bF hT eY ?_ (fT _))))
 unfold Builtin.«set_iterator.__next__»
 refine wpAny_bind (m:=slotArgs _ _ _) (wpAny_pure ?_)
 refine wpAny_bind (wpAny_fieldsOf hit rfl ?_)
 dsimp only
 refine wpAny_bind (wpAny_setEntries_of ho rfl g.fits ?_)
 rw[if_neg (by simp)]
 simp only[Int.toNat_natCast]
 refine wpAny_bind (hn ?_)
 dsimp only
 refine wpAny_bind (wpAny_setField_rec hit (by simp) λ h1 e1 k1=>?_)
 refine wpAny_bind (wpAny_setField_rec (s:={ s with heap:=h1 }) e1 (by simp) λ h2 e2 k2=>?_)
 refine wpAny_pure ⟨_,rfl,wpAny_pure (h h2 ?_ (k1.trans k2))⟩
 have e3:((i+1:Nat):Int)=(i:Int)+1:=by omega
 show h2.get? I=some { cls:=.type "set_iterator",dict:=none,data:=.fields #[.int nx 0,.int ((i+1:Nat):Int) 0,.ref a,.int es.size 0,.int ep 0],slots:=#[] }
 rw[e3]
 simpa[rawInt]using e2
theorem su {Q:Option Value->Shared->Prop}(hh:A.handled=none)(h:∀ h',(∀ b o,s.heap.get? b=some o->h'.get? b=some o)->Q none { s with heap:=h' }) :
  wpAny (model prog w) A.in1 (do raiseNew (<-newExc (.type "StopIteration") []):Sem PySem.Fin) (λ fin s'=>∃ r,fin=.done (.ret r)/\(wpAny (model prog w) A (pure (some r)) Q E s')) (λ x s'=>wpAny (model prog w) A (do if <-isInstance x (.type "StopIteration") then pure none else throw x) Q E s') s:=by
 refine wpAny_bind ?_
 simp only[newExc,newTuple]
 refine wpAny_bind (wpAny_newObj_type ?_ (by size_fits))
 refine wpAny_bind (m:=firstArgMember _ _) (wpAny_of_eq (a:=Value.none) (by first|rfl|(simp only[firstArgMember];rfl)) ?_)
 refine wpAny_newObj_type ?_ (by size_fits)
 simp only[raiseNew]
 refine wpAny_bind (wpAny_handled ?_)
 rw[show A.in1.handled=none from hh]
 refine wpAny_bind (wpAny_pure (wpAny_throw ?_))
 refine wpAny_bind (wpAny_isInstance (T:="StopIteration") (b:=true) ⟨_,Heap.get?_push_size _ rfl,rfl⟩ isSubtype_stop ?_)
 exact wpAny_pure (h _ λ b o e=>Heap.get?_push_of_some _ (Heap.get?_push_of_some _ e))
theorem wu {Q:Option Value->Shared->Prop}(hh:A.handled=none)(hit:s.heap.get? I=some (gA (.int sl 0) i a es.size ep)) (ho:s.heap.get? a=some (bY es ep t)) (g:Good (bT w) es.size t)
  (hn:∀ {E:Value->Shared->Prop}{Q:Option (Value × Nat)->Shared->Prop},Q none s->wpAny (model prog w) A.in1 (setNext a sl i ep) Q E s)
  (h:∀ h',(∀ b o,b≠I->s.heap.get? b=some o->h'.get? b=some o)->Q none { s with heap:=h' }):wpAny (model prog w) A (pyNext (.ref I)) Q E s:=by
 have hT:s.TypeIs (.ref I) "set_iterator":=⟨_,hit,rfl⟩
 unfold pyNext
 refine wpAny_bind (wpAny_attempt (wpAny_callSpecial?_slot (name:=Str.ofString "__next__") hT bF (wpAny_call_entry bF hT eY ?_ (fT _))))
 unfold Builtin.«set_iterator.__next__»
 refine wpAny_bind (m:=slotArgs _ _ _) (wpAny_pure ?_)
 refine wpAny_bind (wpAny_fieldsOf hit rfl ?_)
 dsimp only
 refine wpAny_bind (wpAny_setEntries_of ho rfl g.fits ?_)
 rw[if_neg (by simp)]
 simp only[Int.toNat_natCast]
 refine wpAny_bind (hn ?_)
 dsimp only
 refine wpAny_bind (wpAny_setField_rec hit (by simp) λ h1 e1 k1=>?_)
 exact su (s:={ s with heap:=h1 }) hh λ h' k=>h h' λ b o hb e=>k b o ((k1.2 b hb).trans e)
theorem zW {tp:Addr}{ps:List Nat}{p:Nat}{x:Int × Value}{Q:Option Value->Shared->Prop}(hit:s.heap.get? I=some (gA (.ref tp) i a es.size ep)) (ho:s.heap.get? a=some (bY es ep t)) (g:Good (bT w) es.size t)
  (Ho:s.heap.get? tp=some { cls:=.type "tuple",data:=.seq (ps.map λ(i:Nat)=>rawInt i).toArray }) (hp:ps[i]? = some p) (hx:es[p]? = some x)
  (h:∀ h',h'.get? I=some (gA (.ref tp) (i+1) a es.size ep)->Heap.SameBut I s.heap h'->Q (some x.2) { s with heap:=h' }):wpAny (model prog w) A (pyNext (.ref I)) Q E s:=by
 have hT:s.TypeIs (.ref I) "set_iterator":=⟨_,hit,rfl⟩
 unfold pyNext
 refine wpAny_bind (wpAny_attempt (wpAny_callSpecial?_slot (name:=Str.ofString "__next__") hT bF (wpAny_call_entry bF hT eY ?_ (fT _))))
 unfold Builtin.«set_iterator.__next__»
 refine wpAny_bind (m:=slotArgs _ _ _) (wpAny_pure ?_)
 refine wpAny_bind (wpAny_fieldsOf hit rfl ?_)
 dsimp only
 refine wpAny_bind (wpAny_setEntries_of ho rfl g.fits ?_)
 rw[if_neg (by simp)]
 refine wpAny_bind (m:=seqItems? _) ?_
 unfold seqItems?
 dsimp only
 refine wpAny_bind (wpAny_load Ho (wpAny_pure ?_))
 dsimp only
 simp only[Int.toNat_natCast]
 have e1:(ps.map λ(i:Nat)=>rawInt i).toArray[i]? = some (rawInt p):=by rw[List.getElem?_toArray,List.getElem?_map,hp];rfl
 rw[e1]
 dsimp only[rawInt]
 refine wpAny_bind ?_
 unfold setNextDrawn
 refine wpAny_bind (wpAny_setState_of ho rfl g.fits ?_)
 dsimp only
 simp only[Int.toNat_natCast,bne_self_eq_false,Bool.false_eq_true,if_false]
 rw[hx]
 refine wpAny_pure ?_
 refine wpAny_bind (wpAny_setField_rec hit (by simp) λ h1 e1 k1=>?_)
 refine wpAny_pure ⟨_,rfl,wpAny_pure (h h1 ?_ k1)⟩
 have e3:((i+1:Nat):Int)=(i:Int)+1:=by omega
 show h1.get? I=some { cls:=.type "set_iterator",dict:=none,data:=.fields #[.ref tp,.int ((i+1:Nat):Int) 0,.ref a,.int es.size 0,.int ep 0],slots:=#[] }
 rw[e3]
 simpa[rawInt]using e1
theorem zX {tp:Addr}{ps:List Nat}{Q:Option Value->Shared->Prop}(hh:A.handled=none)(hit:s.heap.get? I=some (gA (.ref tp) i a es.size ep)) (ho:s.heap.get? a=some (bY es ep t)) (g:Good (bT w) es.size t)
  (Ho:s.heap.get? tp=some { cls:=.type "tuple",data:=.seq (ps.map λ(i:Nat)=>rawInt i).toArray }) (hp:ps[i]? = none)
  (h:∀ h',(∀ b o,b≠I->s.heap.get? b=some o->h'.get? b=some o)->Q none { s with heap:=h' }):wpAny (model prog w) A (pyNext (.ref I)) Q E s:=by
 have hT:s.TypeIs (.ref I) "set_iterator":=⟨_,hit,rfl⟩
 unfold pyNext
 refine wpAny_bind (wpAny_attempt (wpAny_callSpecial?_slot (name:=Str.ofString "__next__") hT bF (wpAny_call_entry bF hT eY ?_ (fT _))))
 unfold Builtin.«set_iterator.__next__»
 refine wpAny_bind (m:=slotArgs _ _ _) (wpAny_pure ?_)
 refine wpAny_bind (wpAny_fieldsOf hit rfl ?_)
 dsimp only
 refine wpAny_bind (wpAny_setEntries_of ho rfl g.fits ?_)
 rw[if_neg (by simp)]
 refine wpAny_bind (m:=seqItems? _) ?_
 unfold seqItems?
 dsimp only
 refine wpAny_bind (wpAny_load Ho (wpAny_pure ?_))
 dsimp only
 simp only[Int.toNat_natCast]
 have e1:(ps.map λ(i:Nat)=>rawInt i).toArray[i]? = none:=by rw[List.getElem?_toArray,List.getElem?_map,hp];rfl
 rw[e1]
 dsimp only
 refine wpAny_bind (wpAny_setField_rec hit (by simp) λ h1 e1 k1=>?_)
 refine wpAny_bind (wpAny_setField_rec (s:={ s with heap:=h1 }) e1 (by simp) λ h2 e2 k2=>?_)
 exact su (s:={ s with heap:=h2 }) hh λ h' k=>h h' λ b o hb e=>k b o (((k1.trans k2).2 b hb).trans e)
end
end Sx
namespace Sx
open PySem PyProof.Rows
theorem uh {xs:Array Nat}(h:um xs){j i:Nat}(hi:i<=xs.size)(h1:∀ k b,k < i->xs[k]? = some b->b < j)(h2:∀ k b,i<=k->xs[k]? = some b->j<=b):SetTable.below xs j=i:=by
 obtain⟨b1,b2,b3⟩:=ug h j
 rcases Nat.lt_trichotomy (SetTable.below xs j) i with q|q|q
 ·have hl:SetTable.below xs j < xs.size:=by omega
  have e:xs[SetTable.below xs j]? = some xs[SetTable.below xs j]:=by simp[hl]
  have:=h1 _ _ q e
  have:=b3 _ _ (Nat.le_refl _) e
  omega
 ·exact q
 ·have hl:i < xs.size:=by omega
  have e:xs[i]? = some xs[i]:=by simp[hl]
  have:=b2 _ _ q e
  have:=h2 _ _ (Nat.le_refl _) e
  omega
section
variable {prog:Program}{w:World}{K:Type} [DecidableEq K] {knd:PySem.KeyKind prog w K}{A:Around}{E:Value->Shared->Prop}{s:Shared}{a:Addr}{ks:List K}
def AR (prog:Program)(w:World){K:Type} [DecidableEq K] (knd:PySem.KeyKind prog w K)(A:Around)(ks:List K)(a:Addr)(h h':Heap)(I:Addr):Prop:=
 (∀ b o,h.get? b=some o->h'.get? b=some o)/\∃ (L:List Value) (fp:List Addr) (St:Nat->Heap->Prop),(∀ b∈fp,b=a∨h.objs.size<=b)/\I∈fp/\h.objs.size<=I/\Walks prog w A I fp [I] L.length (λ i v=>L[i]? = some v) St/\St 0 h'/\∃ jF,eG knd L jF/\jF.Perm ks
theorem yO {A':Around}(hh:A'.handled=none){Q:Value->Shared->Prop}(hS:gw knd s.heap a ks)
  (h:∀ I h' d,AR prog w knd A' ks a s.heap h' I->Q (.ref I) { s with heap:=h',drawn:=d }):wpAny (model prog w) A (pyIter (.ref a)) Q E s:=by
 obtain⟨es,ep,t,jF,ho,g,hb,Gv,hK,hp,nd⟩:=id hS
 have Gp:a < s.heap.objs.size:=Heap.lt_size ho
 have hT:=hS.typeIs
 refine wpAny_pyIter_slot hT F.slot_set_iter (wpAny_call_entry F.slot_set_iter hT oF ?_ (F.args_set_iter_1 _))
 unfold Builtin.«frozenset.__iter__» Builtin.Frozenset.slot0 Builtin.Frozenset.addrOf Builtin.Frozenset.sizeOf
 refine wpAny_bind (wpAny_bind (m:=slotArgs _ _ _) (wpAny_pure (wpAny_pure ?_)))
 refine wpAny_bind (wpAny_bind (wpAny_setEntries_of ho rfl g.fits (wpAny_pure ?_)))
 have QC:∀ {Q:Bool->Shared->Prop}{E:Value->Shared->Prop},Q (!bT w && (!t.plain && decide (es.size > 1))) s->wpAny (model prog w) A.in1 (setDrawn a) Q E s:=λ {Q E} hq=>by
  unfold setDrawn setsByText
  refine wpAny_bind (wpAny_setState_of ho rfl g.fits ?_)
  dsimp only
  refine wpAny_bind (wpAny_bind (wpAny_askSetting (wpAny_pure (wpAny_pure hq))))
 refine wpAny_bind (QC ?_)
 have iter:∀ (f:Value) (h1:Heap) (d:Drawn),(∀ b o,s.heap.get? b=some o->h1.get? b=some o)->s.heap.objs.size<=h1.objs.size->AR prog w knd A' ks a s.heap (h1.push (gA f 0 a es.size ep)) h1.objs.size->
   wpAny (model prog w) A.in1 (setEpoch a >>= λ e=>newFields "set_iterator" [f,rawInt 0,.ref a,rawInt es.size,rawInt e] >>= λ r=>ret r) (λ fin s'=>∃ r,fin=.done (.ret r)/\∃ T' q,s'.TypeIs r T'/\typeLookup (.type T') "__next__"=pure (some q)/\Q r s') E { s with heap:=h1,drawn:=d }:=λ f h1 d k hz ok=>by
  refine wpAny_bind (wpAny_setEpoch_of (s:={ s with heap:=h1,drawn:=d }) (k _ _ ho) rfl g.fits ?_)
  unfold newFields
  refine wpAny_bind (wpAny_newObj_type ?_ (by size_fits))
  refine wpAny_pure ⟨_,rfl,"set_iterator",_,⟨gA f 0 a es.size ep,Heap.get?_push_size _ rfl,rfl⟩,bF.lookup,h _ _ d ok⟩
 have Ad:∀ (f:Value) (h1:Heap),(h1.push (gA f 0 a es.size ep)).get? h1.objs.size=some (gA f 0 a es.size ep):=λ f h1=>Heap.get?_push_size _ rfl
 have Ri:(!bT w && (!t.plain && decide (es.size > 1)))=false->wpAny (model prog w) A.in1 (setEpoch a >>= λ e=>newFields "set_iterator" [rawInt 0,rawInt 0,.ref a,rawInt es.size,rawInt e] >>= λ r=>ret r) (λ fin s'=>∃ r,fin=.done (.ret r)/\∃ T' q,s'.TypeIs r T'/\typeLookup (.type T') "__next__"=pure (some q)/\Q r s') E s:=λ hd=>by
  have key:=iter (rawInt 0) s.heap s.drawn (λ _ _ e=>e) (Nat.le_refl _) ?_
  ·exact key
  refine⟨λ b o e=>Heap.get?_push_of_some _ e,?_⟩
  by_cases Gy:bT w=true
  ·refine⟨(pickOrder (w.params.setOrder a ep) es).toList.map (·.2),[s.heap.objs.size,a],λ i h=>h.get? s.heap.objs.size=some (gA (.int (0:Nat) 0) i a es.size ep)/\h.get? a=some (bY es ep t),?_,by simp,Nat.le_refl _,?_,⟨Ad _ _,Heap.get?_push_of_some _ ho⟩,?_⟩
   ·intro b g9
    rcases List.mem_cons.mp g9 with rfl|g9
    ·exact .inr (Nat.le_refl _)
    ·exact .inl (List.mem_singleton.mp g9)
   ·refine⟨λ b g9=>by simp at g9 ⊢;exact .inl g9,λ i h h' hs k=>⟨k _ (by simp) _ hs.1,k _ (by simp) _ hs.2⟩,λ i s' Q E hi st hq=>?_,λ s' Q E st hq=>?_,λ i s' Q E st hq=>qR st.1 hq⟩
    ·rw[List.length_map,Array.length_toList]at hi
     have e1:(pickOrder (w.params.setOrder a ep) es)[i]? = some (pickOrder (w.params.setOrder a ep) es)[i]:=by simp[hi]
     refine wt (t:=t) (nx:=0) st.1 st.2 g (λ {E' Q'} Gf=>pN Gy st.2 g (by rw[e1];exact Gf)) λ h' e k=>?_
     exact hq _ h' s'.toks (by rw[List.getElem?_map,Array.getElem?_toList,e1];rfl) ⟨e,(k.2 a (Nat.ne_of_lt Gp)).trans st.2⟩ λ b o g9 e'=>(k.2 b (by simpa using g9)).trans e'
    ·refine wu (t:=t) hh st.1 st.2 g (λ {E' Q'} Gf=>pN Gy st.2 g (by rw[Array.getElem?_eq_none (by simp)];exact Gf)) λ h' k=>?_
     exact hq h' s'.toks λ b o g9 e'=>k b o (by simpa using g9) e'
   ·obtain⟨k2,p2,q2⟩:=eG.perm ((xA (w.params.setOrder a ep) es).map (·.2)) hK
    exact⟨k2,q2,p2.trans hp⟩
  ·have Gy:bT w=false:=by simpa using Gy
   have hd2:(!t.plain && decide (es.size > 1))=false:=by rw[Gy]at hd;simpa using hd
   have Qe:t.place.size=es.size:=by have:=g.fits;simp only[SetTable.fits,Bool.and_eq_true,beq_iff_eq]at this;exact this.1
   have hr:um t.place:=by
    cases i':t.plain with
    | true=>exact g.rise i'
    | false=>
     rw[i']at hd2
     simp at hd2
     intro i j x y tI ex ey
     have:=(Array.getElem?_eq_some_iff.mp ey).1
     omega
   refine⟨es.toList.map (·.2),[s.heap.objs.size,a],λ i h=>∃ sl:Nat,h.get? s.heap.objs.size=some (gA (.int sl 0) i a es.size ep)/\h.get? a=some (bY es ep t)/\SetTable.below t.place sl=i,?_,by simp,Nat.le_refl _,?_,⟨0,Ad _ _,Heap.get?_push_of_some _ ho,uh hr (Nat.zero_le _) (λ k b hk=>absurd hk (Nat.not_lt_zero _)) λ k b _ _=>Nat.zero_le _⟩,⟨jF,hK,hp⟩⟩
   ·intro b g9
    rcases List.mem_cons.mp g9 with rfl|g9
    ·exact .inr (Nat.le_refl _)
    ·exact .inl (List.mem_singleton.mp g9)
   ·refine⟨λ b g9=>by simp at g9 ⊢;exact .inl g9,λ i h h' ⟨sl,h1,h2,h3⟩ k=>⟨sl,k _ (by simp) _ h1,k _ (by simp) _ h2,h3⟩,λ i s' Q E hi ⟨sl,h1,h2,h3⟩ hq=>?_,λ s' Q E ⟨sl,h1,h2,h3⟩ hq=>?_,λ i s' Q E ⟨sl,h1,h2,h3⟩ hq=>qR h1 hq⟩
    ·rw[List.length_map,Array.length_toList]at hi
     have e1:es[i]? = some es[i]:=by simp[hi]
     have e2:t.place[i]? = some (t.place[i]'(by omega)):=by simp[Qe,hi]
     generalize t.place[i]'(by omega)=pl at e2
     refine wt (t:=t) (nx:=pl+1) h1 h2 g (λ {E' Q'} Gf=>nQ Gy h2 g hd2 (by rw[h3,e1,e2];exact Gf)) λ h' e k=>?_
     refine hq _ h' s'.toks (by rw[List.getElem?_map,Array.getElem?_toList,e1];rfl) ⟨pl+1,e,(k.2 a (Nat.ne_of_lt Gp)).trans h2,uh hr (by omega) (λ m b hm eb=>?_) λ m b hm eb=>?_⟩ λ b o g9 e'=>(k.2 b (by simpa using g9)).trans e'
     ·rcases Nat.lt_or_ge m i with q|q
      ·exact Nat.lt_succ_of_lt (hr m i b pl q eb e2)
      ·have:m=i:=by omega
       subst this
       rw[e2]at eb;cases eb;exact Nat.lt_succ_self _
     ·exact hr i m pl b (by omega) e2 eb
    ·rw[List.length_map,Array.length_toList]at h3 h1
     refine wu (t:=t) hh h1 h2 g (λ {E' Q'} Gf=>nQ Gy h2 g hd2 (by rw[h3,Array.getElem?_eq_none (Nat.le_refl _)];exact Gf)) λ h' k=>?_
     exact hq h' s'.toks λ b o g9 e'=>k b o (by simpa using g9) e'
 split
 ·rename_i hd
  refine wpAny_bind (qi _ _ _ (by simp) λ ps d Mp=>?_)
  refine wpAny_bind (wpAny_newTuple ?_ (by rw[List.length_map,Mp.length_eq,List.length_range];exact fits_of_scanBound hb))
  have key:=iter (.ref s.heap.objs.size) (s.heap.push { cls:=.type "tuple",data:=.seq (ps.map λ(i:Nat)=>rawInt i).toArray }) d (λ b o e=>Heap.get?_push_of_some _ e) (by rw[Heap.size_push];exact Nat.le_succ _) ?_
  ·exact key
  have Ho:(s.heap.push { cls:=.type "tuple",data:=.seq (ps.map λ(i:Nat)=>rawInt i).toArray }).get? s.heap.objs.size=some { cls:=.type "tuple",data:=.seq (ps.map λ(i:Nat)=>rawInt i).toArray }:=Heap.get?_push_size _ rfl
  generalize Ol:s.heap.push { cls:=.type "tuple",data:=.seq (ps.map λ(i:Nat)=>rawInt i).toArray }=h1 at Ho
  have IE:∀ b o,s.heap.get? b=some o->h1.get? b=some o:=λ b o e=>by rw[<-Ol];exact Heap.get?_push_of_some _ e
  have Me:h1.objs.size=s.heap.objs.size+1:=by rw[<-Ol,Heap.size_push]
  have inr:∀ p∈ps,p < es.size:=λ p Qh=>by have:=Mp.mem_iff.mp Qh;simpa using this
  refine⟨λ b o e=>Heap.get?_push_of_some _ (IE b o e),ps.map λ p=>((es[p]?).map (·.2)).getD .none,[h1.objs.size,a,s.heap.objs.size],λ i h=>h.get? h1.objs.size=some (gA (.ref s.heap.objs.size) i a es.size ep)/\h.get? a=some (bY es ep t)/\h.get? s.heap.objs.size=some { cls:=.type "tuple",data:=.seq (ps.map λ(i:Nat)=>rawInt i).toArray },?_,by simp,by omega,?_,⟨Ad _ _,Heap.get?_push_of_some _ (IE _ _ ho),Heap.get?_push_of_some _ Ho⟩,?_⟩
  ·intro b g9
   simp only[List.mem_cons,List.not_mem_nil,or_false]at g9
   rcases g9 with rfl|rfl|rfl
   ·exact .inr (by omega)
   ·exact .inl rfl
   ·exact .inr (Nat.le_refl _)
  ·refine⟨λ b g9=>by simp at g9 ⊢;exact .inl g9,λ i h h' hs k=>⟨k _ (by simp) _ hs.1,k _ (by simp) _ hs.2.1,k _ (by simp) _ hs.2.2⟩,λ i s' Q E hi st hq=>?_,λ s' Q E st hq=>?_,λ i s' Q E st hq=>qR st.1 hq⟩
   ·rw[List.length_map]at hi
    have e1:ps[i]? = some ps[i]:=by simp[hi]
    have e2:es[ps[i]]? = some (es[ps[i]]'(inr _ (List.getElem_mem hi))):=by simp[inr _ (List.getElem_mem hi)]
    refine zW (t:=t) st.1 st.2.1 g st.2.2 e1 e2 λ h' e k=>?_
    refine hq _ h' s'.toks ?_ ⟨e,(k.2 a (Nat.ne_of_lt (by rw[Me];exact Nat.lt_succ_of_lt Gp))).trans st.2.1,(k.2 _ (Nat.ne_of_lt (by rw[Me];exact Nat.lt_succ_self _))).trans st.2.2⟩ λ b o g9 e'=>(k.2 b (by simpa using g9)).trans e'
    show(ps.map λ p=>((es[p]?).map (·.2)).getD .none)[i]? = _
    rw[List.getElem?_map,e1]
    show some ((Option.map (·.2) es[ps[i]]?).getD .none)=_
    rw[e2];rfl
   ·rw[List.length_map]at st
    refine zX (t:=t) hh st.1 st.2.1 g st.2.2 (by simp) λ h' k=>?_
    exact hq h' s'.toks λ b o g9 e'=>k b o (by simpa using g9) e'
  ·have e1:(List.range es.size).map (λ p=>((es[p]?).map (·.2)).getD .none)=es.toList.map (·.2):=by
    apply List.ext_getElem?
    intro i
    by_cases hi:i < es.size
    ·simp[hi]
    ·simp[hi]
   have pp:(ps.map λ p=>((es[p]?).map (·.2)).getD .none).Perm (es.toList.map (·.2)):=by rw[<-e1];exact Mp.map _
   obtain⟨k2,p2,q2⟩:=eG.perm pp hK
   exact⟨k2,q2,p2.trans hp⟩
 ·rename_i hd
  refine wpAny_bind (wpAny_pure ?_)
  exact Ri (by simpa using hd)
end
end Sx
namespace Sx
open PySem PyProof.Rows
def uniq {K:Type} [DecidableEq K] (ks:List K):List K:=ks.foldl iK []
theorem u5 {K:Type} [DecidableEq K] {ks:List K}{k:K}(h:ks.Nodup):(iK ks k).Nodup:=by
 unfold iK
 split
 ·exact h
 ·exact List.nodup_append.mpr ⟨h,by simp,λ z hz y hy e=>by rw[List.mem_singleton.mp hy]at e;subst e;contradiction⟩
theorem tF {K:Type} [DecidableEq K] {ks:List K}{k:K}:(iK ks k).length<=ks.length+1:=by
 unfold iK
 split
 ·omega
 ·simp
section
variable {prog:Program}{w:World}{K:Type} [DecidableEq K] {knd:PySem.KeyKind prog w K}{A:Around}{E:Value->Shared->Prop}{s:Shared}{a:Addr}{ks:List K}
theorem Ah (hT:s.TypeIs (.ref a) "set") {Q:Bool->Shared->Prop}(h:Q false s):wpAny (model prog w) A (Builtin.List.listLengthHint (.ref a)) Q E s:=by
 unfold Builtin.List.listLengthHint
 refine wpAny_bind (wpAny_specialOf hT F.slot_set_len.lookup ?_)
 generalize he:("set.__len__":String)=nm
 wp_delta
 rw[show splitId nm=some ("set","__len__") from by rw[<-he];decide +kernel]
 subst he
 refine wpAny_bind (wpAny_isInstance (T:="set") (b:=true) hT sub_set_self ?_)
 refine wpAny_ite_split (λ z=>absurd z (by decide)) λ _=>?_
 refine wpAny_ite_split (λ _=>wpAny_bind (wpAny_typeOf hT (wpAny_pure h))) λ z=>absurd (by decide +kernel) z
theorem sA {R:List Value->Shared->Prop}(hh:A.handled=none)(hS:gw knd s.heap a ks)
  (h:∀ h' tk d vs jF,(∀ b o,s.heap.get? b=some o->h'.get? b=some o)->eG knd vs jF->jF.Perm ks->R vs { s with heap:=h',toks:=tk,drawn:=d }):wpAny (model prog w) A (collect (.ref a)) R E s:=by
 have Gp:=hS.lt
 unfold collect
 refine wpAny_bind (wpAny_runValue (codeAny_builtin PySem.F.entry_proto_collect ?_))
 rw[Around.under_plainId PySem.F.plain_proto_collect _]
 show wpAny _ A.in1 (newList [] >>= λ l=>again (.builtin "list.__iadd__" ⟨[l,.ref a],[]⟩)) _ _ s
 refine wpAny_bind (wpAny_newObj_type ?_)
 refine wpAny_pure ⟨plainId_quiet PySem.F.plain_list_iadd _,codeAny_builtin PySem.F.entry_list_iadd ?_⟩
 rw[Around.under_plainId PySem.F.plain_list_iadd _]
 have nw:(s.heap.push { cls:=.type "list",data:=.seq ([]:List Value).toArray }).get? s.heap.objs.size=some { cls:=.type "list",data:=.seq #[] }:=Heap.get?_push_size _ rfl
 have o1:∀ b o,s.heap.get? b=some o->(s.heap.push { cls:=.type "list",data:=.seq ([]:List Value).toArray }).get? b=some o:=λ b o e=>Heap.get?_push_of_some _ e
 have z1:(s.heap.push { cls:=.type "list",data:=.seq ([]:List Value).toArray }).objs.size=s.heap.objs.size+1:=Heap.size_push ..
 generalize (s.heap.push { cls:=.type "list",data:=.seq ([]:List Value).toArray })=h1 at nw o1 z1 ⊢
 have S1:gw knd h1 a ks:=hS.keep λ o e=>o1 a o e
 show wpAny _ A.in1 (Builtin.List.listExtendWith (.ref s.heap.objs.size) (.ref a) (.ref s.heap.objs.size)) _ _ { s with heap:=h1 }
 unfold Builtin.List.listExtendWith
 refine wpAny_bind (wpAny_typeOf (s:={ s with heap:=h1 }) S1.typeIs ?_)
 have n1:Builtin.List.listSameRef (.ref s.heap.objs.size) (.ref a)=false:=by simp[Builtin.List.listSameRef];exact λ z=>Nat.lt_irrefl _ (z ▸ Gp)
 have n2:(Value.type "set" == Value.type "list")=false:=by decide
 have n3:(Value.type "set" == Value.type "tuple")=false:=by decide
 simp only[n1,n2,n3,Bool.or_false,Bool.false_eq_true,if_false]
 refine wpAny_bind (yO (s:={ s with heap:=h1 }) (A':=A.in1) hh S1 λ I h2 d ⟨o2,L,fp,St,f1,f2,f3,W,st,kk⟩=>?_)
 have S2:gw knd h2 a ks:=S1.keep λ o e=>o2 a o e
 have nS:s.heap.objs.size∉fp:=λ z=>by
  rcases f1 _ z with e|e
  ·rw[e]at Gp;exact Nat.lt_irrefl _ Gp
  ·have e:h1.objs.size<=s.heap.objs.size:=e
   omega
 refine wpAny_bind (wpAny_holding (Ah (s:={ s with heap:=h2,drawn:=d }) S2.typeIs ?_))
 have LR:=o2 _ _ nw
 have lp:∀ (h3:Heap) (c:Nat),(∀ b o,b≠s.heap.objs.size->h2.get? b=some o->h3.get? b=some o)->h3.get? s.heap.objs.size=some { cls:=.type "list",dict:=none,data:=.seq #[] c,slots:=#[] }->
   codeAny (model prog w) A (.builtin "list.extend.loop" ⟨[.ref s.heap.objs.size,.ref I,.ref s.heap.objs.size],[]⟩) (λ r s'=>match r with
    | .ok f=>(match f with|.ret v=>wpAny (model prog w) A (match v with|.ref a=>(load a >>= λ o=>match o.data with|.seq xs _=>pure xs.toList|_=>unsupported "internal:collect")|_=>unsupported "internal:collect") R E s'|_=>False)
    | .error x=>E x s') { s with heap:=h3,drawn:=d }:=λ h3 c k3 e3=>by
  obtain⟨jF,q1,q2⟩:=kk
  have Qr:L.length<=sizeLine:=by
   rw[q1.length,q2.length_eq]
   obtain⟨es,_,_,RJ,_,_,hb,_,hK,hp,_⟩:=hS
   have hz:es.size=ks.length:=by rw[<-hp.length_eq,<-hK.length,List.length_map,Array.length_toList]
   rw[<-hz]
   exact fits_of_scanBound hb
  refine codeAny_extend_loopS W.toS Qr _ nS _ L.length 0 _ #[] c rfl (Nat.zero_le _) (W.frame 0 h2 h3 st λ b hb o e=>k3 b o (λ z=>nS (z ▸ hb)) e) e3 (ItemsOf.nil _) λ s' acc c' mv e4 it=>?_
  obtain⟨h',g',d',KZ,Iq⟩:=s'
  have eg:g'=s.gens:=mv.gens
  have ed:d'=d:=mv.drawn
  have eo:Iq=s.os:=mv.os
  subst eg ed eo
  show wpAny _ A (load s.heap.objs.size >>= _) _ _ _
  refine wpAny_bind (wpAny_load e4 (wpAny_pure ?_))
  have ea:acc.toList=L:=List.ext_getElem? λ j=>by
   by_cases hj:j < acc.size
   ·have:=it.2 j acc[j] (by simp[hj])
    rw[this];simp[hj]
   ·rw[List.getElem?_eq_none (by simpa using hj),List.getElem?_eq_none (by rw[<-it.1];omega)]
  refine h h' KZ d' acc.toList jF (λ b o e=>?_) (by rw[ea];exact q1) q2
  have hb:b≠s.heap.objs.size:=Nat.ne_of_lt (Heap.lt_size e)
  have QI:b≠I:=λ z=>by
   have h5:=Heap.lt_size (o1 b o e)
   rw[z]at h5
   exact absurd h5 (Nat.not_lt.mpr f3)
  exact mv.heap b o (by simp[hb,QI]) (k3 b o hb (o2 b o (o1 b o e)))
 refine wpAny_ite_split (λ _=>?_) λ _=>wpAny_pure ⟨plainId_quiet PySem.F.plain_extend_loop _,codeAny_mono (lp h2 0 (λ _ _ _ e=>e) LR) (λ r s' hr=>by cases r with|ok f=>(cases f with|ret v=>exact hr|_=>exact hr.elim)|error x=>exact hr)⟩
 refine wpAny_bind (wpAny_rule (wpAny_bind ?_))
 show wpAny _ _ (updateSeq s.heap.objs.size (·.push .none) >>= λ _=>updateSeq s.heap.objs.size (·.pop)) _ _ { s with heap:=h2,drawn:=d }
 refine wpAny_bind (wpAny_updateSeq LR rfl ?_)
 have u1:=Heap.get?_update_self (Obj.mapSeq (·.push Value.none)) LR rfl
 refine wpAny_updateSeq (hz:=by seq_fits) u1 rfl ?_
 exact wpAny_pure ⟨plainId_quiet PySem.F.plain_extend_loop _,codeAny_mono (lp _ _ (λ b o hb e=>(Heap.get?_update_other _ _ (Ne.symm hb)).trans ((Heap.get?_update_other _ _ (Ne.symm hb)).trans e)) (Heap.get?_update_self (Obj.mapSeq (·.pop)) u1 rfl)) (λ r s' hr=>by cases r with|ok f=>(cases f with|ret v=>exact hr|_=>exact hr.elim)|error x=>exact hr)⟩
end
end Sx
namespace Sx
open PySem PyProof.Rows
section
variable {prog:Program}{w:World}{K:Type} [DecidableEq K] {knd:PySem.KeyKind prog w K}{A:Around}{R:Result->Shared->Prop}{I:Addr}{fp wr:List Addr}{G:Array GenState->Array GenState->Prop}{n:Nat}{P:Nat->Value->Prop}{St:Nat->Shared->Prop}
theorem ya (W:WalksS prog w A.in1 I fp wr G n P St){D:Addr}(hD:D∉fp){all:List K}(hn:all.length=n)(hP:∀ i v,P i v->∃ k,all[i]? = some k/\knd.is k v=true/\v.scannable=true)(hb:n+1 < scanBound) :
  ∀ (m i:Nat) (s:Shared) (ks:List K),n - i=m->i<=n->St i s->gw knd s.heap D ks->ks.length<=i->(∀ s',Moved (D :: wr) G s s'->gw knd s'.heap D ((all.drop i).foldl iK ks)->R (.ok (.ret .none)) s')->
   codeAny (model prog w) A (.builtin "set.update.loop" ⟨[.ref D,.ref I],[]⟩) R s:=by
 have nw:D∉wr:=λ z=>hD (W.sub _ z)
 have sub:∀ b∈wr,b∈D :: wr:=λ b z=>List.mem_cons_of_mem _ z
 intro m
 induction m with
 | zero=>
  intro i s ks hm hi st hS hl q
  have:i=n:=by omega
  subst this
  refine codeAny_builtin PyProof.Rows.F.entry_set_update_loop ?_
  rw[Around.under_plainId PyProof.Rows.F.plain_set_update_loop _]
  refine wpAny_bind (m:=pyNext (.ref I)) (W.done s _ _ st λ s' mv=>?_)
  show wpAny _ A.in1 (ret Value.none) _ _ s'
  refine wpAny_pure (q s' (mv.mono sub) ?_)
  rw[<-hn,List.drop_length]
  exact hS.keep λ o e=>mv.heap D o nw e
 | succ m ih=>
  intro i s ks hm hi st hS hl q
  have qX:i < n:=by omega
  refine codeAny_builtin PyProof.Rows.F.entry_set_update_loop ?_
  rw[Around.under_plainId PyProof.Rows.F.plain_set_update_loop _]
  refine wpAny_bind (m:=pyNext (.ref I)) (W.item i s _ _ qX st λ v s' pv eK mv=>?_)
  obtain⟨k,e1,e2,e3⟩:=hP i v pv
  have S':gw knd s'.heap D ks:=hS.keep λ o e=>mv.heap D o nw e
  show wpAny _ A.in1 (holding [v] (setAdd D v) >>= _) _ _ s'
  refine wpAny_bind (wpAny_holding ?_)
  unfold setAdd
  refine wpAny_holding (wpAny_bind (knd.pyHash e2 ?_))
  refine yP (s:={ s' with toks:=s'.toks+1 }) e2 e3 S' (by omega) λ h' b sb S2=>?_
  have hd:all.drop i=k :: all.drop (i+1):=by
   rw[List.drop_eq_getElem_cons (by omega)]
   congr 1
   have:=List.getElem?_eq_getElem (l:=all) (i:=i) (by omega)
   rw[this]at e1;cases e1;rfl
  refine wpAny_pure ⟨plainId_quiet PyProof.Rows.F.plain_set_update_loop _,ih (i+1) _ (iK ks k) (by omega) qX (W.frame _ s' _ _ eK (Nat.le_succ _) λ b z o e=>?_) S2 (Nat.le_trans tF (by omega)) λ s2 PF S3=>?_⟩
  ·rw[sb.2 b λ y:b=D=>hD (by rw[<-y];exact z)];exact e
  ·refine q s2 (Moved.trans W.gtrans ((mv.mono sub).then_heap (Nat.le_succ _) λ b o z e=>?_) PF) (by rw[hd];exact S3)
   rw[sb.2 b λ y:b=D=>z (by rw[y];exact List.mem_cons_self)];exact e
end
section
variable {prog:Program}{w:World}{K:Type} [DecidableEq K] {knd:PySem.KeyKind prog w K}{A:Around}{E:Value->Shared->Prop}{s:Shared}
theorem zH (x:Value){Q:Value->Shared->Prop}(h:Q (.ref s.heap.objs.size) { s with heap:=s.heap.push (bY #[] 0 (.fresh 0 0 (!bT w))) }) :
  codeAny (model prog w) A (.call (.builtin "set.__new__") ⟨[.type "set",x],[]⟩) (wants Q E) s:=by
 refine codeAny_of_tree ?_
 refine wpAny_bind (m:=checkBuiltinCall _ _) (wpAny_of_eq (PySem.F.newCall_set_1 x) (wpAny_pure ⟨plainId_quiet PySem.F.plain_set_new _,codeAny_builtin PySem.F.entry_set_new ?_⟩))
 rw[Around.under_plainId PySem.F.plain_set_new _]
 unfold Builtin.«set.__new__» Builtin.Frozenset.newClass
 have sub:=sub_set_self
 obtain⟨hp,g,d,tk,os⟩:=s
 dsimp only
 wp_walk
 refine wpAny_askSetting (wpAny_pure ?_)
 dsimp only
 simp only[newObj]
 exact wpAny_bind (wpAny_alloc (wpAny_pure (wpAny_pure h)))
theorem sy {l:Addr}{its:Array Value}{all:List K}{Q:Value->Shared->Prop}(hh:A.handled=none)(hl:s.heap.IsList l its)(hk:eG knd its.toList all)(oh:∀ v∈its.toList,v.scannable=true)(hb:its.size+1 < scanBound)
  (h:∀ h' tk,gw knd h' s.heap.objs.size (uniq all)->(∀ b o,s.heap.get? b=some o->h'.get? b=some o)->Q (.ref s.heap.objs.size) { s with heap:=h',toks:=tk }) :
  wpAny (model prog w) A (call (.type "set") [.ref l]) Q E s:=by
 have F0:=PySem.F.called_set
 obtain⟨c,tl,mro⟩:=F0.mro
 have md:=F0.made
 have sb:=F0.sub
 have nt:=F0.notType
 have cc:=F0.canCreate
 have ck:=PySem.F.typeCall_set_1 (.ref l)
 refine wpAny_call (codeAny_of_tree (wpAny_pure ⟨Code.quiet_builtin _ (by decide +kernel),codeAny_builtin PySem.F.entry_type_call ?_⟩))
 rw[Around.under_plain (weight_type_call_type "set" [.ref l] []) rfl]
 repeat (any_goals (first|assumption|wp_step))
 refine codeAny_mono (zH (.ref l) (E:=E) (Q:=λ v s1=>v=.ref s.heap.objs.size/\s1={ s with heap:=s.heap.push (bY #[] 0 (.fresh 0 0 (!bT w))) }) ⟨rfl,rfl⟩) λ r s1 hr=>?_
 cases r with
 | error x=>exact hr
 | ok f=>
  cases f with
  | ret v=>
   obtain⟨rfl,rfl⟩:=hr
   have nw:(s.heap.push (bY #[] 0 (.fresh 0 0 (!bT w)))).get? s.heap.objs.size=some (bY #[] 0 (.fresh 0 0 (!bT w))):=Heap.get?_push_size _ rfl
   have hT:Shared.TypeIs { s with heap:=s.heap.push (bY #[] 0 (.fresh 0 0 (!bT w))) } (.ref s.heap.objs.size) "set":=⟨_,nw,rfl⟩
   have li:=F0.init.lookup
   have bi:=F0.init.bind (.ref s.heap.objs.size)
   repeat (any_goals (first|assumption|wp_step))
   refine codeAny_mono (codeAny_call_builtin (R:=wants (λ r s2=>r=.none/\Q (.ref s.heap.objs.size) s2) E) F0.init.plain PySem.F.entry_set_init (check_set_init_1 hT ?_)) λ r2 s2 Hq=>?_
   ·obtain⟨ol,h1,h2,nl,h3⟩:=id hl
    obtain⟨oc,od,RE,vX⟩:=ol
    simp only at h2 h3
    subst h2 h3
    have Qk:(s.heap.push (bY #[] 0 (.fresh 0 0 (!bT w)))).get? l=some { cls:=.type "list",dict:=od,data:=.seq its nl,slots:=vX }:=Heap.get?_push_of_some _ h1
    have q1:=PySem.F.sub_list_set
    have q2:=PySem.F.sub_list_frozenset
    have q3:(Value.type "list" == Value.type "dict")=false:=by decide
    have il:(s.heap.push (bY #[] 0 (.fresh 0 0 (!bT w)))).IsList l its:=⟨_,Qk,rfl,nl,rfl⟩
    unfold Builtin.«set.__init__» noKeywords Builtin.Frozenset.updateFrom
    generalize QL:pyIter=PI
    wp_walk
    subst QL
    refine wpAny_pyIter_list il (wpAny_bind (wpAny_runValue ?_))
    have lz:l < s.heap.objs.size:=Heap.lt_size h1
    have hz:(s.heap.push (bY #[] 0 (.fresh 0 0 (!bT w)))).objs.size=s.heap.objs.size+1:=Heap.size_push ..
    have ne:l≠(s.heap.push (bY #[] 0 (.fresh 0 0 (!bT w)))).objs.size:=by rw[hz];exact Nat.ne_of_lt (Nat.lt_succ_of_lt lz)
    have nf:s.heap.objs.size∉[(s.heap.push (bY #[] 0 (.fresh 0 0 (!bT w)))).objs.size,l]:=by
     rw[hz];simp only[List.mem_cons,List.not_mem_nil,or_false,not_or]
     exact⟨Nat.ne_of_lt (Nat.lt_succ_self _),Nat.ne_of_gt lz⟩
    have QN:A.in1.in1.in1.handled=none:=by simp[hh]
    have hlen:all.length=its.size:=by rw[<-hk.length,Array.length_toList]
    have at_:∀ (vs:List Value) (ks:List K),eG knd vs ks->∀ (i:Nat) v,vs[i]? = some v->∃ k,ks[i]? = some k/\knd.is k v=true:=by
     intro vs
     induction vs with
     | nil=>intro ks _ i v e;simp at e
     | cons u vs ih=>
      intro ks hk i v e
      cases ks with
      | nil=>exact hk.elim
      | cons k ks=>
       cases i with
       | zero=>simp at e;subst e;exact⟨k,rfl,hk.1⟩
       | succ i=>exact ih ks hk.2 i v (by simpa using e)
    refine ya (knd:=knd) (Walks.list QN _ l ne its).toS nf hlen (λ i v e=>?_) hb its.size 0 _ [] (Nat.sub_zero _) (Nat.zero_le _) ⟨⟨_,Heap.get?_push_size _ rfl,rfl,rfl⟩,il.push _⟩
     ⟨#[],0,_,[],Heap.get?_push_of_some _ nw,vd _,by decide,λ e he=>by simp at he,trivial,.refl _,List.nodup_nil⟩ (Nat.zero_le _) λ s' mv S'=>?_
    ·have e':its.toList[i]? = some v:=by rw[Array.getElem?_toList];exact e
     obtain⟨k,e1,e2⟩:=at_ _ _ hk i v e'
     exact⟨k,e1,e2,oh v (List.mem_of_getElem? e')⟩
    ·obtain⟨h',g',d',KZ,Iq⟩:=s'
     have eg:g'=s.gens:=mv.gens
     have ed:d'=s.drawn:=mv.drawn
     have eo:Iq=s.os:=mv.os
     subst eg ed eo
     refine wpAny_pure (wpAny_pure ⟨rfl,h h' KZ S' λ b o e=>?_⟩)
     have b1:b < s.heap.objs.size:=Heap.lt_size e
     refine mv.heap b o (by rw[hz];simp only[List.mem_cons,List.not_mem_nil,or_false,not_or];exact⟨Nat.ne_of_lt b1,Nat.ne_of_lt (Nat.lt_succ_of_lt b1)⟩) (Heap.get?_push_of_some _ (Heap.get?_push_of_some _ e))
   ·cases r2 with
    | error x=>exact Hq
    | ok f2=>
     cases f2 with
     | ret r=>
      obtain⟨rfl,q⟩:=Hq
      repeat (any_goals (first|assumption|wp_step))
     | _=>exact Hq.elim
  | _=>exact hr.elim
end
end Sx
namespace L2
open PySem PySem.Spec PyProof.Rows
section
variable {X:Cx}{elt tg iter Rx N8:Expr}{ifs P1:List Expr}{scope:Scope}{pos:Pos}{wi Rr:TI}{g g1:TG}{tt Rv:TT}{te:TE}
end
end L2
namespace L2
open PySem PySem.Spec PyProof.Rows Sx
def Bo {P:Program}{w:World}{K:Type} [DecidableEq K] (knd:PySem.KeyKind P w K)(d:Addr)(ks:List K):HO:=.ext λ h=>gw knd h d ks
theorem Bn {P:Program}{w:World}{K:Type} [DecidableEq K] {knd:PySem.KeyKind P w K}{d:Addr}{ks:List K}{H:Hp}{h:Heap}(hS:gw knd h d ks):b8 P w H h d (Bo knd d ks):=
 ⟨hS,let ⟨_,_,_,_,ho,_⟩:=hS;⟨_,ho⟩,λ _ _ a k=>a.keep k⟩
structure Enc {P:Program}{w:World}{K:Type} [DecidableEq K] (knd:PySem.KeyKind P w K)(enc:K->V):Prop where
 is:∀ k u,RelV (enc k) u->knd.is k u=true/\u.scannable=true
theorem M4 {P:Program}{w:World}:Enc (strKind P w) V.str:=⟨λ k u ⟨t,e⟩=>by subst e;exact⟨strKind_is P w k t,rfl⟩⟩
theorem Inv.drawn {X:Cx}{pins:List (Addr × Obj)}{σ:St}{H:Hp}{s:Shared}(I:Inv X pins σ H s)(d:Drawn):Inv X pins σ H { s with drawn:=d }:=⟨I.ok,I.os,I.bare,I.base,I.loc,I.cell,I.free,I.iI,I.pin,I.bN,I.len⟩
section
variable {K:Type} [DecidableEq K] {enc:K->V}
theorem wj {P:Program}{w:World}{knd:PySem.KeyKind P w K}(he:Enc knd enc):∀ {ks:List K}{us:List Value},Vals (ks.map enc) us->eG knd us ks/\∀ v∈us,v.scannable=true
 | [],_,.nil=>⟨trivial,λ _ z=>nomatch z⟩
 | k :: ks,_,.cons r h=>by
  obtain⟨q1,q2⟩:=wj he h
  obtain⟨p1,p2⟩:=he.is k _ r
  refine⟨⟨p1,q1⟩,λ v hv=>?_⟩
  rcases List.mem_cons.mp hv with rfl|hv
  ·exact p2
  ·exact q2 v hv
def Lz {P:Program}{w:World}(knd:PySem.KeyKind P w K)(enc:K->V):List V->Hp->VK->Prop:=λ xs H Q=>∃ (l:Addr) (ks:List K),xs=[.ref l]/\H l=some (.lst (ks.map enc))/\ks.length+1 < scanBound/\∀ d,H d=none->Q (.ref d) (upd H d (Bo knd d (uniq ks)))
theorem vm {X:Cx}(hc:X.calm=true){knd:PySem.KeyKind X.prog X.w K}(he:Enc knd enc):cg X (.type "set") (Lz knd enc):=by
 rintro pins s σ H xs us Q I rv ⟨l,ks,rfl,hH,hb,q⟩
 obtain⟨u,rfl,ru⟩:=rv.one
 cases (show u=Value.ref l from ru)
 obtain⟨z,its,n,r,hl,e⟩:=I.sV hH
 obtain⟨k1,k2⟩:=wj he r
 have hz:its.length=ks.length:=k1.length
 refine sy (knd:=knd) (its:=its.toArray) (I.ok.hd hc) ⟨_,e,rfl,n,rfl⟩ (by simpa using k1) (by simpa using k2) (by rw[List.size_toArray,hz];exact hb) λ h' tk hS k=>?_
 exact⟨.ref s.heap.objs.size,_,I.laid (a:=s.heap.objs.size) (o:=Bo knd s.heap.objs.size (uniq ks)) (t':=tk) k (Nat.le_refl _) (Bn hS),rfl,q _ (I.bN.fresh (Nat.le_refl _))⟩
end
section
variable {X:Cx}{elt tg iter:Expr}{ifs:List Expr}{scope:Scope}{pos:Pos}{wi:TI}{g:TG}{tt:TT}{te:TE}
end
end L2
namespace Mm
open PySem L2 Sx
theorem tN {K:Type} [DecidableEq K]:∀ (l ks:List K),(l.foldl iK ks).length<=ks.length+l.length
 | [],ks=>Nat.le_refl _
 | a :: r,ks=>by
  have h1:=tN r (iK ks a)
  have h2:(iK ks a).length<=ks.length+1:=tF
  simp only[List.foldl_cons,List.length_cons]
  omega
theorem boot_max:bootBuiltins "max"=some (.builtin "max"):=by decide +kernel
theorem boot_set:bootBuiltins "set"=some (.type "set"):=by decide +kernel
theorem Bl {n:Nat}(h:n < 64):n+1 < scanBound:=by unfold scanBound;omega
section
variable {T:Tx}{XE:fU}{X:Cx}{pos:Pos}
end
end Mm
namespace Mm
open PySem L2
theorem Bj {n:Nat}(h:n<=1000):n<=sizeLine:=Nat.le_of_lt (a4 h)
def R.wp {α:Type}:R α->(α->S->Prop)->Prop
 | .ok a s,Q=>Q a s
 | _,_=>False
def RS.wp:RS->(En->S->Prop)->(AV->S->Prop)->Prop
 | .nx e s,N,_=>N e s
 | .rt v s,_,T=>T v s
 | _,_,_=>False
theorem R.wp.mono {α:Type}{m:R α}{Q Q':α->S->Prop}(h:m.wp Q)(k:∀ a s,Q a s->Q' a s):m.wp Q':=by
 cases m with
 | ok a s=>exact k a s h
 | ex c s=>exact h.elim
 | bad=>exact h.elim
theorem RS.wp.mono {m:RS}{N N':En->S->Prop}{T T':AV->S->Prop}(h:m.wp N T)(k:∀ a s,N a s->N' a s)(l:∀ a s,T a s->T' a s):m.wp N' T':=by
 cases m with
 | nx a s=>exact k a s h
 | rt a s=>exact l a s h
 | _=>exact h.elim
theorem R.wp.get {α:Type}{m:R α}{Q:α->S->Prop}(h:m.wp Q):∃ a s,m=.ok a s/\Q a s:=by
 cases m with
 | ok a s=>exact⟨a,s,rfl,h⟩
 | ex c s=>exact h.elim
 | bad=>exact h.elim
theorem R.wp.eq {α:Type}{m:R α}{v:α}{s:S}(h:m.wp (λ a s'=>a=v/\s'=s)):m=.ok v s:=by
 obtain⟨a,s',e,rfl,rfl⟩:=h.get;exact e
theorem sd {α:Type}(a:α)(s:S)(Q:α->S->Prop):(R.ok a s).wp Q=Q a s:=rfl
theorem wp_bind {α β:Type}(m:R α)(f:α->S->R β)(Q:β->S->Prop):(m.bind f).wp Q=m.wp λ a s=>(f a s).wp Q:=by
 cases m<;>rfl
theorem cW {α:Type}(m:R α)(f:α->S->RS)(N:En->S->Prop)(T:AV->S->Prop):(m.dw f).wp N T=m.wp λ a s=>(f a s).wp N T:=by
 cases m<;>rfl
theorem vx {α:Type}(m:R α)(Q:α->S->Prop):m.calm.wp Q=m.wp Q:=by
 cases m<;>rfl
theorem kj {α:Type}(c:Prop){_:Decidable c}(m:R α)(Q:α->S->Prop):(if c then m else .bad).wp Q=(c/\m.wp Q):=by
 by_cases h:c
 ·rw[if_pos h];exact propext ⟨λ k=>⟨h,k⟩,λ k=>k.2⟩
 ·rw[if_neg h];exact propext ⟨λ k=>k.elim,λ k=>(h k.1).elim⟩
theorem DW (c:Prop){_:Decidable c}(m:RS)(N:En->S->Prop)(T:AV->S->Prop):(if c then m else .bad).wp N T=(c/\m.wp N T):=by
 by_cases h:c
 ·rw[if_pos h];exact propext ⟨λ k=>⟨h,k⟩,λ k=>k.2⟩
 ·rw[if_neg h];exact propext ⟨λ k=>k.elim,λ k=>(h k.1).elim⟩
theorem mP (c:Prop){_:Decidable c}{α:Type}(m n:R α)(Q:α->S->Prop):(if c then m else n).wp Q=if c then m.wp Q else n.wp Q:=by
 by_cases h:c
 ·rw[if_pos h,if_pos h]
 ·rw[if_neg h,if_neg h]
theorem yw (c:Prop){_:Decidable c}(m n:RS)(N:En->S->Prop)(T:AV->S->Prop):(if c then m else n).wp N T=if c then m.wp N T else n.wp N T:=by
 by_cases h:c
 ·rw[if_pos h,if_pos h]
 ·rw[if_neg h,if_neg h]
theorem mO {α γ:Type}(x:γ)(f:γ->R α)(Q:α->S->Prop):(need (some x) f).wp Q=(f x).wp Q:=rfl
theorem bR:(([]:List AV).length<=sizeLine)=True/\(∀ a:AV,([a].length<=sizeLine)=True)/\(∀ a b:AV,([a,b].length<=sizeLine)=True)/\(∀ a b c:AV,([a,b,c].length<=sizeLine)=True)/\
  (∀ a b c d e f:AV,([a,b,c,d,e,f].length<=sizeLine)=True)/\
  (([]:List AV).length=0)=True/\(∀ a:AV,([a].length=1)=True)/\(∀ a b:AV,([a,b].length=2)=True)/\(∀ a b c:AV,([a,b,c].length=3)=True):=by
 refine⟨?_,?_,?_,?_,?_,?_,?_,?_,?_⟩<;>intros<;>first|exact eq_true rfl|exact eq_true (Bj (by show(_:Nat)<=1000;simp))
theorem WS :
  (∀ (a b:Ms) (env:En) (s:S) (N:En->S->Prop) (T:AV->S->Prop),(au a b env s).wp N T=(a env s).wp (λ e s1=>(b e s1).wp N T) T)/\
  (∀ (i:Nat) (m:Ev) (env:En) (s:S) (N:En->S->Prop) (T:AV->S->Prop),(aO i m env s).wp N T=(m env s).wp λ v s1=>N (env.set i (some v)) s1)/\
  (∀ (m:Ev) (env:En) (s:S) (N:En->S->Prop) (T:AV->S->Prop),(aU m env s).wp N T=(m env s).wp T)/\
  (∀ (c:Eb) (a b:Ms) (env:En) (s:S) (N:En->S->Prop) (T:AV->S->Prop),(dU c a b env s).wp N T=(c env s).wp λ k s1=>if k=true then (a env s1).wp N T else (b env s1).wp N T)/\
  (∀ (m:Ev) (env:En) (s:S) (N:En->S->Prop) (T:AV->S->Prop),(pJ m env s).wp N T=(m env s).wp λ _ s1=>N env s1)/\
  (∀ (m:Ev) (g:Mt) (env:En) (s:S) (N:En->S->Prop) (T:AV->S->Prop),(gH m g env s).wp N T=(m env s).wp λ v s1=>(g v env s1).wp N T)/\
  (∀ (i j:Nat) (a b:Ev) (env:En) (s:S) (N:En->S->Prop) (T:AV->S->Prop),(fC i j (aa a (aa b ah)) env s).wp N T=(a env s).wp λ v s1=>(b env s1).wp λ w s2=>N ((env.set i (some v)).set j (some w)) s2)/\
  (∀ (env:En) (s:S) (N:En->S->Prop) (T:AV->S->Prop),(bH env s).wp N T=N env s)/\
  (∀ (src:Src) (gU:Mt) (b:Ms) (env:En) (s:S) (N:En->S->Prop) (T:AV->S->Prop),(lD src gU b env s).wp N T=(src env s).wp λ p s1=>(forL gU b p.2 p.1 env s1).wp N T)/\
  (∀ (d y v:Ev) (env:En) (s:S) (N:En->S->Prop) (T:AV->S->Prop),(nF d y v env s).wp N T=(v env s).wp λ a s1=>(d env s1).wp λ b s2=>(y env s2).wp λ c s3=>(putD a b c env s3).wp N T)/\
  (∀ (i:Nat) (v:AV) (env:En) (s:S) (N:En->S->Prop) (T:AV->S->Prop),(gN i v env s).wp N T=N (env.set i (some v)) s)/\
  (∀ (n:Nat) (r:xg) (vs:List AV) (env:En) (s:S) (N:En->S->Prop) (T:AV->S->Prop),(gT n r (.tup vs) env s).wp N T=(vs.length=n/\(r vs env s).wp N T))/\
  (∀ (i:Nat) (r:xg) (v:AV) (w:List AV) (env:En) (s:S) (N:En->S->Prop) (T:AV->S->Prop),(aw (gN i) r (v :: w) env s).wp N T=(r w (env.set i (some v)) s).wp N T)/\
  (∀ (env:En) (s:S) (N:En->S->Prop) (T:AV->S->Prop),(cZ [] env s).wp N T=N env s)/\
  (∀ (o i:Ev) (r:xg) (v:AV) (w:List AV) (env:En) (s:S) (N:En->S->Prop),(aw (dO o i) r (v :: w) env s).wp N (λ _ _=>False)=(dO o i v env s).wp (λ e s1=>(r w e s1).wp N (λ _ _=>False)) (λ _ _=>False))/\
  (∀ (n:Nat) (b:Ms) (v:AV) (s:S) (Q:AV->S->Prop),(gh n b [v] s).wp Q=(b (some v :: List.replicate (n - 1) none) s).wp (λ _ s1=>Q .aY s1) Q)/\
  (∀ (n:Nat) (b:Ms) (v w:AV) (s:S) (Q:AV->S->Prop),(gh n b [v,w] s).wp Q=(b (some v :: some w :: List.replicate (n - 2) none) s).wp (λ _ s1=>Q .aY s1) Q)/\
  (∀ (n:Nat) (b:Ms) (v w x:AV) (s:S) (Q:AV->S->Prop),(gh n b [v,w,x] s).wp Q=(b (some v :: some w :: some x :: List.replicate (n - 3) none) s).wp (λ _ s1=>Q .aY s1) Q):=by
 refine⟨?_,?_,?_,?_,?_,?_,?_,?_,?_,?_,?_,?_,?_,?_,?_,?_,?_,?_⟩<;>intros
 ·rename_i a b env s N T;show(match a env s with|.nx e s1=>b e s1|r=>r).wp N T=_;cases a env s<;>rfl
 ·unfold aO;rw[cW];rfl
 ·unfold aU;rw[cW];rfl
 ·unfold dU;rw[cW];congr 1;funext k s1;exact yw _ _ _ _ _
 ·unfold pJ;rw[cW];rfl
 ·unfold gH;rw[cW]
 ·rename_i i j a b env s N T
  unfold fC aa ah
  cases a env s with
  | ok v s1=>
   simp only[dz,sd]
   cases b env s1<;>rfl
  | ex c s1=>rfl
  | bad=>rfl
 ·rfl
 ·unfold lD;rw[cW]
 ·unfold nF;rw[cW];congr 1;funext k s1;rw[cW];congr 1;funext k s1;rw[cW]
 ·rfl
 ·exact DW _ _ _ _
 ·rfl
 ·rfl
 ·rename_i o i r v w env s N
  show(match dO o i v env s with|.nx e s1=>r w e s1|q=>q).wp N _=_
  cases dO o i v env s<;>rfl
 ·rename_i n b v s Q
  show(match b (some v :: List.replicate (n - 1) none) s with|.rt v s1=>R.ok v s1|.nx _ s1=>.ok .aY s1|.ex c s1=>.ex c s1|_=>.bad).wp Q=_
  cases b (some v :: List.replicate (n - 1) none) s<;>rfl
 ·rename_i n b v w s Q
  show(match b (some v :: some w :: List.replicate (n - 2) none) s with|.rt v s1=>R.ok v s1|.nx _ s1=>.ok .aY s1|.ex c s1=>.ex c s1|_=>.bad).wp Q=_
  cases b (some v :: some w :: List.replicate (n - 2) none) s<;>rfl
 ·rename_i n b v w x s Q
  show(match b (some v :: some w :: some x :: List.replicate (n - 3) none) s with|.rt v s1=>R.ok v s1|.nx _ s1=>.ok .aY s1|.ex c s1=>.ex c s1|_=>.bad).wp Q=_
  cases b (some v :: some w :: some x :: List.replicate (n - 3) none) s<;>rfl
def yA (v:AV)(s:S):R (List AV × Gd):=match v with
 | .tup xs=>.ok (xs,[]) s
 | .sq xs=>.ok (xs,[]) s
 | .ref i=>need (aq s i) λ xs=>.ok (xs,[(i,xs)]) s
 | _=>.bad
theorem WE :
  (∀ (v:AV) (env:En) (s:S) (Q:AV->S->Prop),(mc v env s).wp Q=Q v s)/\
  (∀ (op:AV->AV->S->R AV) (a b:Ev) (env:En) (s:S) (Q:AV->S->Prop),(af op a b env s).wp Q=(a env s).wp λ v s1=>(b env s1).wp λ w s2=>(op v w s2).wp Q)/\
  (∀ (op:AV->S->R AV) (a:Ev) (env:En) (s:S) (Q:AV->S->Prop),(cK op a env s).wp Q=(a env s).wp λ v s1=>(op v s1).wp Q)/\
  (∀ (r:dR) (env:En) (s:S) (Q:AV->S->Prop),(aT r env s).wp Q=(r env s).wp λ vs s1=>vs.length<=sizeLine/\Q (.tup vs) s1)/\
  (∀ (r:dR) (env:En) (s:S) (Q:List AV->S->Prop),(bz r env s).wp Q=(r env s).wp λ vs s1=>vs.length<=sizeLine/\Q vs s1)/\
  (∀ (r:dR) (env:En) (s:S) (Q:AV->S->Prop),(aF r env s).wp Q=(r env s).wp λ vs s1=>Q (.ref s1.length) (s1++[.lst vs]))/\
  (∀ (n:Nat) (F:List AV->S->R AV) (r:dR) (env:En) (s:S) (Q:AV->S->Prop),(aj n F r env s).wp Q=(r env s).wp λ vs s1=>vs.length=n/\(F vs s1).wp Q)/\
  (∀ (a:Ev) (r:dR) (env:En) (s:S) (Q:List AV->S->Prop),(aa a r env s).wp Q=(a env s).wp λ v s1=>(r env s1).wp λ vs s2=>Q (v :: vs) s2)/\
  (∀ (env:En) (s:S) (Q:List AV->S->Prop),(ah env s).wp Q=Q [] s)/\
  (∀ (m:Ev) (env:En) (s:S) (Q:Bool->S->Prop),(cB m env s).wp Q=(m env s).wp λ v s1=>match v with|.bl b=>Q b s1|_=>False)/\
  (∀ (m:Ev) (env:En) (s:S) (Q:Bool->S->Prop),(cT m env s).wp Q=(m env s).wp λ v s1=>match truth v s1 with|some b=>Q b s1|none=>False)/\
  (∀ (a:Eb) (env:En) (s:S) (Q:Bool->S->Prop),(cF a env s).wp Q=(a env s).wp λ c s1=>Q (!c) s1)/\
  (∀ (a b:Eb) (env:En) (s:S) (Q:Bool->S->Prop),(J7 a b env s).wp Q=(a env s).wp λ c s1=>if c=true then (b env s1).wp Q else Q false s1)/\
  (∀ (a b:Eb) (env:En) (s:S) (Q:Bool->S->Prop),(iM a b env s).wp Q=(a env s).wp λ c s1=>if c=true then Q true s1 else (b env s1).wp Q)/\
  (∀ (env:En) (s:S) (Q:Bool->S->Prop),(bE env s).wp Q=Q true s)/\
  (∀ (c:Eb) (a b:Ev) (env:En) (s:S) (Q:AV->S->Prop),(yl c a b env s).wp Q=(c env s).wp λ k s1=>if k=true then (a env s1).wp Q else (b env s1).wp Q)/\
  (∀ (op:List AV->S->R AV) (r:dR) (env:En) (s:S) (Q:AV->S->Prop),(gp op r env s).wp Q=(r env s).wp λ vs s1=>(op vs s1).wp Q)/\
  (∀ {α:Type}(op:List AV->S->R α) (r:dR) (env:En) (s:S) (Q:α->S->Prop),(dm op r env s).wp Q=(r env s).wp λ vs s1=>(op vs s1).wp Q)/\
  (∀ (m:Ev) (env:En) (s:S) (Q:List AV->S->Prop),(eh m env s).wp Q=(m env s).wp λ v s1=>(need (items v s1) λ xs=>.ok xs s1).wp Q)/\
  (∀ (r:dR) (env:En) (s:S) (Q:List AV × Gd->S->Prop),(xo r env s).wp Q=(r env s).wp λ xs s1=>Q (xs,[]) s1)/\
  (∀ (m:Ev) (env:En) (s:S) (Q:List AV × Gd->S->Prop),(aV m env s).wp Q=(m env s).wp λ v s1=>(yA v s1).wp Q)/\
  (∀ (l:Lc) (src:Src) (gU:Mt) (test:Eb) (elt:Ev) (env:En) (s:S) (Q:List AV->S->Prop),(aK l src gU test elt env s).wp Q=(src env s).wp λ p s1=>p.1.length<=sizeLine/\(dQ gU test elt p.2 p.1 (hU l env) s1 []).wp Q)/\
  (∀ (n:String) (op:AV->List AV->S->R AV) (o:Ev) (r:dR) (env:En) (s:S) (Q:AV->S->Prop),(nV n op o r env s).wp Q=(o env s).wp λ v s1=>(cw n v s1).isSome=true/\(r env s1).wp λ vs s2=>(op v vs s2).wp Q)/\
  (∀ {α:Type}(n:String) (op:AV->List AV->S->R α) (o:Ev) (r:dR) (env:En) (s:S) (Q:α->S->Prop),(JN n op o r env s).wp Q=(o env s).wp λ v s1=>(cw n v s1).isSome=true/\(r env s1).wp λ vs s2=>(op v vs s2).wp Q)/\
  (∀ (n:String) (op:AV->List AV->S->R AV) (o:Ev) (env:En) (s:S) (Q:AV->S->Prop),(Du n op o env s).wp Q=(o env s).wp λ v s1=>(cw n v s1).isSome=true/\(op v [] s1).wp Q)/\
  (∀ (d y z:Ev) (env:En) (s:S) (Q:AV->S->Prop),(Dv d y z env s).wp Q=(d env s).wp λ a s1=>(cw "dict" a s1).isSome=true/\(y env s1).wp λ b s2=>(z env s2).wp λ c s3=>(zj a b c s3).wp Q)/\
  (∀ (env:En) (s:S) (Q:AV->S->Prop),(L1 env s).wp Q=Q (.ref s.length) (s++[.dK []]))/\
  (∀ (m:Ev) (lo hi:Eo) (env:En) (s:S) (Q:AV->S->Prop),(gW m lo hi env s).wp Q=(m env s).wp λ v s1=>(lo env s1).wp λ l s2=>(hi env s2).wp λ h s3=>(BY v l h s3).wp Q)/\
  (∀ (env:En) (s:S) (Q:Option Int->S->Prop),(oN env s).wp Q=Q none s)/\
  (∀ (m:Ev) (env:En) (s:S) (Q:Option Int->S->Prop),(oS m env s).wp Q=(m env s).wp λ v s1=>match v with|.int i=>Q (some i) s1|_=>False)/\
  (∀ (a b:Ev) (env:En) (s:S) (Q:AV->S->Prop),(eJ a b env s).wp Q=(a env s).wp λ v s1=>match v with|.bl true=>(b env s1).wp Q|.bl false=>Q (.bl false) s1|_=>False)/\
  (∀ (a b:Ev) (env:En) (s:S) (Q:AV->S->Prop),(zI a b env s).wp Q=(a env s).wp λ v s1=>match v with|.bl true=>Q (.bl true) s1|.bl false=>(b env s1).wp Q|_=>False)/\
  (∀ (m:Ev) (env:En) (s:S) (Q:AV->S->Prop),(gu m env s).wp Q=(m env s).wp λ v s1=>(s1.take s.length=s/\v.low s.length=true)/\Q v s)/\
  (∀ (m:Eb) (env:En) (s:S) (Q:Bool->S->Prop),(xY m env s).wp Q=(m env s).wp λ v s1=>(s1.take s.length=s)/\Q v s)/\
  (∀ (m:Ev) (env:En) (s:S) (Q:AV->S->Prop),(CK m env s).wp Q=(m env s).wp λ v s1=>((s1.take s.length).all (AO.low s.length)=true/\v.low s.length=true)/\Q v (s1.take s.length))/\
  (∀ (m:Ev) (env:En) (s:S) (Q:List AV->S->Prop),(sZ m env s).wp Q=(m env s).wp λ v s1=>match v with|.ref k=>(need (aq s1 k) λ xs=>if s.length<=k/\(s1.take s.length).all (AO.low s.length)=true/\bx s.length xs=true then .ok xs (s1.take s.length) else .bad).wp Q|_=>False):=by
 refine⟨?_,?_,?_,?_,?_,?_,?_,?_,?_,?_,?_,?_,?_,?_,?_,?_,?_,?_,?_,?_,?_,?_,?_,?_,?_,?_,?_,?_,?_,?_,?_,?_,?_,?_,?_,?_⟩<;>intros
 ·rfl
 ·unfold af;rw[wp_bind];congr 1;funext v s1;rw[wp_bind]
 ·unfold cK;rw[wp_bind]
 ·unfold aT;rw[wp_bind];congr 1;funext v s1;exact kj _ _ _
 ·unfold bz;rw[wp_bind];congr 1;funext v s1;exact kj _ _ _
 ·unfold aF;rw[wp_bind];rfl
 ·unfold aj;rw[wp_bind];congr 1;funext v s1;exact kj _ _ _
 ·unfold aa;rw[wp_bind];congr 1;funext v s1;rw[wp_bind];rfl
 ·rfl
 ·unfold cB;rw[wp_bind];congr 1;funext v s1;cases v<;>rfl
 ·unfold cT;rw[wp_bind];congr 1;funext v s1;cases truth v s1<;>rfl
 ·unfold cF;rw[wp_bind];rfl
 ·unfold J7;rw[wp_bind];congr 1;funext v s1;exact mP _ _ _ _
 ·unfold iM;rw[wp_bind];congr 1;funext v s1;exact mP _ _ _ _
 ·rfl
 ·unfold yl;rw[wp_bind];congr 1;funext v s1;exact mP _ _ _ _
 ·unfold gp;rw[wp_bind]
 ·unfold dm;rw[wp_bind]
 ·unfold eh;rw[wp_bind]
 ·unfold xo;rw[wp_bind];rfl
 ·unfold aV;rw[wp_bind];rfl
 ·unfold aK;rw[wp_bind];congr 1;funext v s1;exact kj _ _ _
 ·unfold nV;rw[wp_bind];congr 1;funext v s1
  cases cw _ v s1 with
  | none=>exact propext ⟨λ k=>k.elim,λ k=>nomatch k.1⟩
  | some u=>rw[mO,wp_bind];exact propext ⟨λ k=>⟨rfl,k⟩,λ k=>k.2⟩
 ·unfold JN;rw[wp_bind];congr 1;funext v s1
  cases cw _ v s1 with
  | none=>exact propext ⟨λ k=>k.elim,λ k=>nomatch k.1⟩
  | some u=>rw[mO,wp_bind];exact propext ⟨λ k=>⟨rfl,k⟩,λ k=>k.2⟩
 ·unfold Du;rw[wp_bind];congr 1;funext v s1
  cases cw _ v s1 with
  | none=>exact propext ⟨λ k=>k.elim,λ k=>nomatch k.1⟩
  | some u=>rw[mO];exact propext ⟨λ k=>⟨rfl,k⟩,λ k=>k.2⟩
 ·unfold Dv;rw[wp_bind];congr 1;funext v s1
  cases cw _ v s1 with
  | none=>exact propext ⟨λ k=>k.elim,λ k=>nomatch k.1⟩
  | some u=>
   rw[mO,wp_bind]
   simp only[wp_bind]
   exact propext ⟨λ k=>⟨rfl,k⟩,λ k=>k.2⟩
 ·rfl
 ·unfold gW;rw[wp_bind];congr 1;funext v s1;rw[wp_bind];congr 1;funext v s1;rw[wp_bind]
 ·rfl
 ·unfold oS;rw[wp_bind];congr 1;funext v s1;cases v<;>rfl
 ·unfold eJ;rw[wp_bind];congr 1;funext v s1
  cases v with
  | bl b=>cases b<;>rfl
  | _=>rfl
 ·unfold zI;rw[wp_bind];congr 1;funext v s1
  cases v with
  | bl b=>cases b<;>rfl
  | _=>rfl
 ·unfold gu;rw[wp_bind];congr 1;funext v s1;exact kj _ _ _
 ·unfold xY;rw[wp_bind];congr 1;funext v s1;exact kj _ _ _
 ·unfold CK;rw[wp_bind];congr 1;funext v s1;exact kj _ _ _
 ·unfold sZ;rw[wp_bind];congr 1;funext v s1;cases v<;>rfl
theorem jY {gU:Mt}{b:Ms}{gs:Gd}{N:En->S->Prop}{T:AV->S->Prop}(I:List AV->En->S->Prop)(hg:∀ l env s,I l env s->mG gs s)(h0:∀ env s,I [] env s->N env s)
  (h1:∀ v r env s,I (v :: r) env s->(gU v env s).wp (λ e s1=>(b e s1).wp (I r) T) (λ _ _=>False)):∀ l env s,I l env s->(forL gU b gs l env s).wp N T
 | [],env,s,h=>by unfold forL;rw[if_pos (hg _ _ _ h)];exact h0 env s h
 | v :: r,env,s,h=>by
  unfold forL
  rw[if_pos (hg _ _ _ h)]
  have k:=h1 v r env s h
  revert k
  cases gU v env s with
  | nx e1 s1=>
   intro k
   have k:(b e1 s1).wp (I r) T:=k
   dsimp only
   revert k
   cases b e1 s1 with
   | nx e2 s2=>intro k;exact jY I hg h0 h1 r e2 s2 k
   | rt e2 s2=>intro k;exact k
   | _=>intro k;exact k.elim
  | _=>intro k;exact k.elim
theorem lb {gU:Mt}{test:Eb}{elt:Ev}{gs:Gd}{Q:List AV->S->Prop}(I:List AV->List AV->En->S->Prop)(hg:∀ l acc env s,I l acc env s->mG gs s)(h0:∀ acc env s,I [] acc env s->Q acc s)
  (h1:∀ v r acc env s,I (v :: r) acc env s->(gU v env s).wp (λ e s1=>(test e s1).wp λ c s2=>if c=true then (elt e s2).wp λ x s3=>I r (acc++[x]) e s3 else I r acc e s2) (λ _ _=>False)):∀ l acc env s,I l acc env s->(dQ gU test elt gs l env s acc).wp Q
 | [],acc,env,s,h=>by unfold dQ;rw[if_pos (hg _ _ _ _ h)];exact h0 acc env s h
 | v :: r,acc,env,s,h=>by
  unfold dQ
  rw[if_pos (hg _ _ _ _ h)]
  have k:=h1 v r acc env s h
  revert k
  cases gU v env s with
  | nx e1 s1=>
   intro k
   dsimp only
   rw[wp_bind,vx]
   refine R.wp.mono k λ c s2 k=>?_
   rw[mP,wp_bind,vx]
   split
   ·rename_i hc;rw[if_pos hc]at k
    exact R.wp.mono k λ x s3 k=>lb I hg h0 h1 r (acc++[x]) e1 s3 k
   ·rename_i hc;rw[if_neg hc]at k
    exact lb I hg h0 h1 r acc e1 s2 k
  | _=>intro k;exact k.elim
end Mm
namespace Mm
open PySem L2
theorem dJ {α:Type}{m:R α}{v:α}{s:S}(h:m=.ok v s)(Q:α->S->Prop):m.wp Q=Q v s:=by rw[h];rfl
theorem yv {m:RS}{e:En}{s:S}(h:m=.nx e s)(N:En->S->Prop)(T:AV->S->Prop):m.wp N T=N e s:=by rw[h];rfl
theorem uw (f:En->S->Nat)(c:Eb)(b:Ms)(env:En)(s:S)(N:En->S->Prop)(T:AV->S->Prop):(xr f c b env s).wp N T=(uo c b (f env s) env s).wp N T:=rfl
theorem aB {a b:Ms}{env:En}{s:S}{N:En->S->Prop}{T:AV->S->Prop}(h:∀ K:En->S->Prop,(∀ e s,K e s=(b e s).wp N T)->(a env s).wp K T):(au a b env s).wp N T:=by
 rw[WS.1]
 exact h _ λ _ _=>rfl
theorem WV :
  (∀ (v:AV) (l:En) (s:S) (Q:AV->S->Prop),(mv 0 (some v :: l) s).wp Q=Q v s)/\
  (∀ (n:Nat) (x:Option AV) (l:En) (s:S) (Q:AV->S->Prop),(mv (n+1) (x :: l) s).wp Q=(mv n l s).wp Q)/\
  (∀ (i j:Int) (s:S) (Q:AV->S->Prop),(av (.int i) (.int j) s).wp Q=Q (.int (i+j)) s)/\
  (∀ (i j:Int) (s:S) (Q:AV->S->Prop),(fh (.int i) (.int j) s).wp Q=Q (.int (i - j)) s)/\
  (∀ (i j:Int) (s:S) (Q:AV->S->Prop),(bf (.int i) (.int j) s).wp Q=((rZ i/\rZ j)/\Q (.int (i * j)) s))/\
  (∀ (i j:Int) (s:S) (Q:AV->S->Prop),(di (.int i) (.int j) s).wp Q=((j≠0/\C_ j)/\Q (.int (i.fdiv j)) s))/\
  (∀ (i j:Int) (s:S) (Q:AV->S->Prop),(cR (.int i) (.int j) s).wp Q=(j≠0/\Q (.int (i.fmod j)) s))/\
  (∀ (i:Int) (s:S) (Q:AV->S->Prop),(cn (.int i) s).wp Q=Q (.int (-i)) s)/\
  (∀ (b:Bool) (s:S) (Q:AV->S->Prop),(jD (.bl b) s).wp Q=Q (.bl (!b)) s)/\
  (∀ (i j:Int) (s:S) (Q:AV->S->Prop),(ee (.int i) (.int j) s).wp Q=Q (.bl (decide (i < j))) s)/\
  (∀ (i j:Int) (s:S) (Q:AV->S->Prop),(my (.int i) (.int j) s).wp Q=Q (.bl (decide (i<=j))) s)/\
  (∀ (i j:Int) (s:S) (Q:AV->S->Prop),(jQ (.int i) (.int j) s).wp Q=Q (.bl (decide (j < i))) s)/\
  (∀ (i j:Int) (s:S) (Q:AV->S->Prop),(jR (.int i) (.int j) s).wp Q=Q (.bl (decide (j<=i))) s)/\
  (∀ (i j:Int) (s:S) (Q:AV->S->Prop),(bI (.int i) (.int j) s).wp Q=Q (.bl (decide (i=j))) s)/\
  (∀ (i j:Int) (s:S) (Q:AV->S->Prop),(cY (.int i) (.int j) s).wp Q=Q (.bl (!decide (i=j))) s)/\
  (∀ (i j:Str) (s:S) (Q:AV->S->Prop),(bI (.str i) (.str j) s).wp Q=Q (.bl (decide (i=j))) s)/\
  (∀ (i j:Str) (s:S) (Q:AV->S->Prop),(cY (.str i) (.str j) s).wp Q=Q (.bl (!decide (i=j))) s)/\
  (∀ (v:AV) (s:S) (Q:AV->S->Prop),(IC v .aY s).wp Q=Q (.bl (wx v)) s)/\
  (∀ (v:AV) (s:S) (Q:AV->S->Prop),(BZ v .aY s).wp Q=Q (.bl (!wx v)) s)/\
  (∀ (i:Int) (s:S) (Q:AV->S->Prop),(kI [.int i] s).wp Q=Q (.int (if i < 0 then -i else i)) s)/\
  (∀ (i j:Int) (s:S) (Q:AV->S->Prop),(IB [.int i,.int j] s).wp Q=Q (.int (if j < i then j else i)) s)/\
  (∀ (i:Int) (s:S) (Q:AV->S->Prop),(nK [.int i] s).wp Q=Q (.int i) s)/\
  (∀ (i:Bool) (s:S) (Q:AV->S->Prop),(nK [.bl i] s).wp Q=Q (.int (if i then 1 else 0)) s)/\
  (∀ (xs:List AV) (i:Int) (s:S) (Q:AV->S->Prop),(ai (.tup xs) (.int i) s).wp Q=(need (gS xs i) λ v=>.ok v s).wp Q)/\
  (∀ (k:Nat) (i:Int) (s:S) (Q:AV->S->Prop),(ai (.ref k) (.int i) s).wp Q=(need (aq s k) λ xs=>need (gS xs i) λ v=>.ok v s).wp Q)/\
  (∀ {α:Type}(a:α) (s:S) (Q:α->S->Prop),(R.ok a s).wp Q=Q a s)/\
  (∀ (e:En) (s:S) (N:En->S->Prop) (T:AV->S->Prop),(RS.nx e s).wp N T=N e s)/\
  (∀ {α γ:Type}(x:γ) (f:γ->R α) (Q:α->S->Prop),(need (some x) f).wp Q=(f x).wp Q)/\
  (∀ (xs:List AV) (s:S) (Q:List AV × Gd->S->Prop),(yA (.tup xs) s).wp Q=Q (xs,[]) s)/\
  (∀ (i j:Int) (s:S) (Q:AV->S->Prop),(pL (.int i) (.int j) s).wp Q=(Dc i j/\Q (.int (i ^ j.toNat)) s))/\
  (∀ (i j:Int) (s:S) (Q:AV->S->Prop),(iV [.int i,.int j] s).wp Q=((0 < j/\C_ j)/\Q (.tup [.int (i / j),.int (i % j)]) s)):=by
 refine⟨?_,?_,?_,?_,?_,?_,?_,?_,?_,?_,?_,?_,?_,?_,?_,?_,?_,?_,?_,?_,?_,?_,?_,?_,?_,?_,?_,?_,?_,?_,?_⟩<;>intros<;>first|rfl|exact kj _ _ _
theorem Lq :
  (∀ (x y:Option AV) (l:En),(x :: l).set 0 y=y :: l)/\
  (∀ (x y:Option AV) (l:En) (n:Nat),(x :: l).set (n+1) y=x :: l.set n y)/\
  (∀ (n:Nat) (x:Option AV),List.replicate (n+1) x=x :: List.replicate n x)/\
  (∀ (x:Option AV),List.replicate 0 x=[])/\
  (∀ (a:AV) (l:List AV),gS (a :: l) 0=some a)/\(∀ (a b:AV) (l:List AV),gS (a :: b :: l) 1=some b)/\(∀ (a b c:AV) (l:List AV),gS (a :: b :: c :: l) 2=some c)/\
  (∀ (l:Lc) (env:En),hU l env=l.map λ p=>p.2.bind λ j=>(env[j]?).join)/\
  (∀ (x:Option AV) (l:En),(x :: l)[0]? = some x)/\
  (∀ (x:Option AV) (l:En) (n:Nat),(x :: l)[n+1]? = l[n]?)/\
  (∀ {α β:Type}(f:α->β),[].map f=[])/\
  (∀ {α β:Type}(f:α->β) (x:α) (l:List α),(x :: l).map f=f x :: l.map f)/\
  (∀ {α β:Type}(f:α->Option β),(none:Option α).bind f=none)/\
  (∀ {α β:Type}(f:α->Option β) (x:α),(some x).bind f=f x)/\
  (∀ {α:Type}(x:Option α),(some x).join=x):=by
 refine⟨?_,?_,?_,?_,?_,?_,?_,?_,?_,?_,?_,?_,?_,?_,?_⟩<;>intros<;>first|rfl|skip
 ·exact e7 (j:=0) rfl
 ·exact e7 (j:=1) rfl
 ·exact e7 (j:=2) rfl
theorem UU:(∀ p:Prop,(True ∧ p)=p) ∧ (∀ p:Prop,(p ∧ True)=p) ∧ (∀ {α:Type}{_:Decidable True}(a b:α),(if True then a else b)=a) ∧ (∀ {α:Type}{_:Decidable False}(a b:α),(if False then a else b)=b) ∧ ((false=true)=False) ∧ (∀ (p:Prop){_:Decidable p},(decide p=true)=p) ∧ (∀ b:Bool,((!b)=true)=(b=false)) ∧ (∀ (p:Prop){_:Decidable p},(decide p=false)=¬p):=by
 refine⟨λ p=>true_and p,λ p=>and_true p,λ a b=>if_true a b,λ a b=>if_false a b,Bool.false_eq_true,λ p _=>decide_eq_true_eq,λ b=>Bool.not_eq_true' b,λ p _=>propext decide_eq_false_iff_not⟩

end Mm
local macro_rules | `(tactic| walk_at "w") => `(tactic| simp only [↓Mm.WS, ↓Mm.WE, ↓Mm.WV, Mm.Lq, Mm.bR, Mm.UU, Nat.reduceSub, ↓reduceIte])
namespace Ro
open PySem L2 Mm
abbrev TK (K:PySem.W.Frag):Tx:=⟨K,λ _=>0⟩
structure Df (T:Tx)(mg:Str->Option Value)(x:Str)(st:Stmt):Prop where
 ex:∃ f fd,A5 T.K x x st f fd/\mg x=some (.ref f)
theorem JZ {K:PySem.W.Frag}{cl:Nat->Addr}{h:Heap}{mg:Str->Option Value}{x:Str}{st:Stmt}{f:Addr}{oc:Value}{od an:Option Addr}{vX:Array (Option Value)}{kV doc pm gR ct:Value}(X:K.In h)(G:h.Ns mainGlobals mg)(a:PySem.W.nsIn K mainGlobals x=some (some (.ref f)))
  (l:K.lookup f=some ⟨oc,od,.func (PySem.W.fnOf x x (iD st) (eZ st) (bJ st) .none kV doc pm an gR ct),vX⟩) (c:PySem.W.codeIn K gR x=true) (k:PySem.W.keepIn K (.ref f)=true):Df ⟨K,cl⟩ mg x st:=
 ⟨⟨f,_,GD l c k,PySem.W.mg_of X G a⟩⟩
theorem zU {K:PySem.W.Frag}{cl:Nat->Addr}{h:Heap}{mg:Str->Option Value}{x:Str}{f:Addr}{od:Option Addr}{it:Array Value}{n:Nat}{sl:Array (Option Value)}{vs:List V}{as:List AV}(X:K.In h)(G:h.Ns mainGlobals mg)(a:PySem.W.nsIn K mainGlobals x=some (some (.ref f))) (l:K.lookup f=some ⟨.type "tuple",od,.seq it n,sl⟩)(v:Vals vs it.toList)(hs:vs.length<=1000)(hv:∀ ρ H,aR ⟨K,cl⟩ ρ H as vs):uu ⟨K,cl⟩ mg x (.tup as):=
 ⟨.ref f,.ref f,PySem.W.mg_of X G a,rfl,λ ρ H=>jK (gF.const l v hs) (hv ρ H)⟩
theorem wg {K:PySem.W.Frag}{cl:Nat->Addr}{h:Heap}{mg:Str->Option Value}{x:Str}{u:Value}{v:V}{a:AV}(X:K.In h)(G:h.Ns mainGlobals mg)(e:PySem.W.nsIn K mainGlobals x=some (some u)) (r:RelV v u)(hv:∀ ρ H,VR ⟨K,cl⟩ ρ H a v):uu ⟨K,cl⟩ mg x a:=⟨v,u,PySem.W.mg_of X G e,r,hv⟩
section
variable {P:Program}{w:World}{T:Tx}{mg:Str->Option Value}{base:Heap}
theorem cu {x:Str}{st:Stmt}{k n:Nat}{body:Ms}(N:List Str)(D:Df T mg x st)(S:jt N (N.take n) (bJ st))
  (hb:∀ (kV doc pm:Value) (an:Option Addr) (gR ct:Value) (us:List Value),us.length=(N.take n).length->bindArgs (PySem.W.fnOf x x (iD st) (eZ st) (bJ st) .none kV doc pm an gR ct) ⟨us,[]⟩=pure ((N.take n).zip us)) (hn:(N.take n).length=n)
  (h:∀ (f:Addr) (gR:Value) (A:Around) (outer:List Env) (s:Shared) (H:Hp) (E:XK),fK k (A.deeper (PyProof.Rows.envOfC x (bJ st) s.heap.objs.size f gR))->N.Nodup->ke (ua vv P w T.K mg base N x (bJ st) f gR A outer s H E).Hk (eZ st) (tS T rX body)) :
  Fk P w T mg base x n (k+1) (gh N.length body):=by
 obtain⟨f,fd,F,m⟩:=D.ex
 have:=DG F S λ gR A outer s H E hr=>h f gR A outer s H E hr S.nd
 rw[hn]at this
 exact⟨f,fd,_,this,F.binds hb,m,F.kp⟩
theorem El {K:PySem.W.Frag}{H:Hp}{a:Addr}{ns:List Int}{E:XK}{fl:List AV->S->R AV}(hl:(fl [.sq (ns.map AV.int)] []).wp λ v _=>v=.bl true) (hO:C9 H)(hS:fJ K H a (ns.map V.int)):oY (TK K) 1 fl [.ref a] H (λ v _=>v=.bl true) E:=by
 have hF:DO K H a (ns.map V.int):=by
  rcases hS with h|h
  ·rcases h with h|h
   ·rcases hO a with z|⟨o,xs,z⟩
    ·rw[z]at h;cases h
    ·rw[z]at h;cases h
   ·exact .inl h
  ·exact .inr h
 refine⟨rfl,[],[],[.sq (ns.map AV.int)],⟨List.nodup_nil,rfl,(λ i o e=>nomatch e)⟩,?_,?_⟩
 ·unfold aR
  refine⟨_,_,rfl,?_,by unfold aR;rfl⟩
  unfold VR
  exact⟨a,_,rfl,hF,aR.map (λ i=>cO) ns⟩
 ·obtain⟨v,s',e,rfl⟩:=hl.get
  rw[e]
  intro ρ' H' x _ _ hx
  have hx:VR (TK K) ρ' H' (.bl true) x:=hx
  unfold VR at hx
  exact hx
theorem GO {l:PySem.W.OpenLaw}{w:World}{K:PySem.W.Frag}{h:Heap}{mg:Str->Option Value}{fa:Addr}{st:Stmt}{k:Nat}{sp:Sp}(MG:mg "law"=some (.ref fa)) (D:Df (TK K) mg "law" st)
  (hb:∀ (s:Shared) (v kV doc pm:Value) (an:Option Addr) (gR ct:Value),BindsTo s (PySem.W.fnOf "law" "law" (iD st) (eZ st) (bJ st) .none kV doc pm an gR ct) ⟨[v],[]⟩ [("_law_script",v)])
  (F:∀ (base:Heap) (f:Addr) (fd:FuncData),A5 K "law" "law" st f fd->j_ l.prog w K mg base vv k f fd ["_law_script"] sp) :
  ∃ fd:FuncData,(∀ (s:Shared) (v:Value),BindsTo s fd ⟨[v],[]⟩ [("_law_script",v)])/\∀ base:Heap,K.In base->base.Ns mainGlobals mg->j_ l.prog w K mg base vv k fa fd ["_law_script"] sp:=by
 obtain⟨f,fd,G,m⟩:=D.ex
 cases m.symm.trans MG
 refine⟨fd,?_,λ base _ _=>F base _ _ G⟩
 obtain⟨oc,od,kV,doc,pm,an,gR,ct,vX,rfl,lk,yn⟩:=G.ex
 exact λ s v=>hb s v kV doc pm an gR ct
end
theorem walk {l:PySem.W.OpenLaw}{q:Program}{loose:List Str}{XP:(Str->Option Value)->Heap->Prop}{YP:World->Heap->Prop}{d:DefRec}{K:Params->PySem.W.Frag}(fl:List AV->S->R AV)(k:Nat)(hk:fK k callerA)(hl:∀ ns:List Int,(fl [.sq (ns.map AV.int)] []).wp λ v _=>v=.bl true) (hn:l.most=some 63)(JC:d.params.defaults=[])
  (hY:∀ (w:World) (h:Heap),YP w h->(K w.params).In h)
  (F:∀ (w:World) (mg:Str->Option Value) (fa:Addr) (h:Heap),(K w.params).In h->h.Ns mainGlobals mg->mg d.name=some (.ref fa)->
   ∃ fd:FuncData,(∀ (s:Shared) (u:Value),BindsTo s fd ⟨[u],[]⟩ [("_law_script",u)])/\∀ base:Heap,(K w.params).In base->base.Ns mainGlobals mg->j_ l.prog w (K w.params) mg base vv k fa fd ["_law_script"] (oY (TK (K w.params)) 1 fl)) :
  PySem.W.WalkO q loose XP YP l.row.toRowW d [] (λ f vs=>PySem.call f vs):=
 L2.A8 (n:=63) (x:="_law_script") (CX:=λ _=>vv) (sp:=λ w=>oY (TK (K w.params)) 1 fl) hn (by decide) JC hk hY F (λ w H a ns _ hO hS=>El (hl ns) hO hS) λ _ _ _ _ _ z=>z
end Ro
namespace L2
open PySem PySem.Spec PyProof.Rows
theorem Fd {X:Cx}:e_ X (compareOp .In) (λ y x H Q=>∃ a b,y=.str a/\x=.str b/\Q (.bl (Txt.contains b a)) H):=by
 intro pins s σ H x y v u Q I rx ry h
 obtain⟨i,j,rfl,rfl,q⟩:=h
 obtain⟨t,rfl⟩:=rx
 obtain⟨t',rfl⟩:=ry
 exact PySem.P.in_str ⟨.bl _,H,I,rfl,q⟩
def ND (x:Str):It:=⟨λ i _=>i < x.length,λ i H v H'=>H'=H/\∃ c,x.cps[i]? = some c/\v=.str ⟨#[c]⟩,λ i _=>x.length<=i⟩
theorem yC {P:Program}{w:World}{K:PySem.W.Frag}{tg:Expr}(x:Str)(t:Tok)(it:Addr):Turn P w K tg (ND x) [it] it (λ i h=>h.IsStrIter it "str_ascii_iterator" x t i) where
 mem:=by simp
 obj:=λ i h st b hb=>by
  have e:b=it:=by simpa using hb
  subst e
  obtain⟨o,e,c,d⟩:=st
  exact⟨o,e,λ v z=>by rw[d]at z;cases z⟩
 keep:=λ i h h' st k=>by
  obtain⟨o,e,c,d⟩:=st
  exact⟨o,k it (by simp) o e,c,d⟩
 item:=by
  intro X hP hw hK hc i pins s σ H E I hf st hg
  subst hP hw hK
  have hi:x.cps[i]? = some (x.cps[i]'hg):=Array.getElem?_eq_getElem hg
  obtain⟨f0,f1,f2,f3,f4,f5⟩:=hf it (by simp)
  refine wpAny_pyNext_ascii_item st hi λ h' eK sb=>?_
  have I1:Inv X pins σ H { s with heap:=h',toks:=s.toks+1 }:=I.turned (t':=s.toks+1) (λ b o hb e=>(sb.2 b hb).trans e) f0 f1 f3 f4 f5
  obtain⟨o,e,c,d⟩:=id eK
  exact⟨_,rfl,wG (s:={ s with heap:=h',toks:=s.toks+1 }) e c d (by decide) ⟨.str _,H,I1,⟨_,rfl⟩,⟨rfl,_,hi,rfl⟩,eK,λ b hb=>(hf b hb).1⟩⟩
 done:=by
  intro X hP hw hK hc i pins s σ H E I hf st hg
  subst hP hw hK
  obtain⟨f0,f1,f2,f3,f4,f5⟩:=hf it (by simp)
  have hg:x.cps.size<=i:=hg
  exact wpAny_pyNext_ascii_end (I.ok.hd hc) st (Array.getElem?_eq_none hg) λ h' eb=>⟨rfl,I.turned (t':=s.toks) (λ b o hb e=>eb b o hb e) f0 f1 f3 f4 f5⟩
 self:=λ _ _ _ _ _ st h=>wpAny_pyIter_striter_ascii st h
theorem EK {X:Cx}{tg e:Expr}{te:TE}(h:PE X e te):PI X tg e (λ σ H R=>te σ H λ x H1=>∃ t,x=.str t/\t.cps.all (· < 128)=true/\R (ND t) H1):=by
 intro pins s σ H R I hq
 refine bO (h pins s σ H _ I hq) λ u s1 ⟨x,H1,I1,rx,t,ex,ha,q⟩=>?_
 subst ex
 obtain⟨tk,rfl⟩:=rx
 refine wpAny_pyIter_ascii ha ?_
 refine⟨s1.heap.objs.size,[s1.heap.objs.size],_,ND t,H1,rfl,I1.kept (t':=s1.toks) λ b o e=>Heap.get?_push_of_some _ e,yC t tk _,⟨_,Heap.get?_push_size _ rfl,rfl,rfl⟩,λ b hb=>?_,q⟩
 have e:b=s1.heap.objs.size:=by simpa using hb
 subst e
 exact I1.vf (Nat.le_refl _) (I1.bN.fresh (Nat.le_refl _))
end L2
namespace Mm
open PySem L2
section
variable {T:Tx}{XE:fU}{X:Cx}{pos:Pos}
structure Dg (i:Int):Prop where
 f:i.natAbs < 10 ^ 4300
noncomputable instance {i:Int}:Decidable (Dg i):=Classical.propDecidable _
abbrev Ej:=Str->En->S->R Str
def N7 (m:Ev)(r:Ej):Ej:=λ acc env s=>(m env s).bind λ v s1=>match v with
 | .str y=>if (acc++y).length<=sizeLine then r (acc++y) env s1 else .bad
 | _=>.bad
def pM:AV->AV->S->R AV
 | .str a,.str b,s=>.ok (.bl (Txt.contains b a)) s
 | _,_,_=>.bad
theorem IG:e_ X (compareOp .In) (lF T XE pM):=by
 intro pins s σ H x y v u Q I rx ry ⟨ρ,a,b,st,sr,va,vb,ho⟩
 cases a<;>cases b<;>try exact ho.elim
 exact Fd pins s σ H x y v u Q I rx ry ⟨_,_,va.str_inv,vb.str_inv,ho.aW sr dM⟩
def sgn (c:Nat):AV:=.str ⟨#[c]⟩
def sx (m:Ev):Src:=λ env s=>(m env s).bind λ v s1=>match v with
 | .str t=>if t.cps.all (· < 128)=true then .ok (t.cps.toList.map sgn,[]) s1 else .bad
 | _=>.bad
theorem LX {tg e:Expr}{m:Ev}(h:PE X e (tE T XE m)):PI X tg e (tW T XE (sx m)):=
 PI.imp (EK h) λ σ H R ⟨ρ,env,s,hs,he,ho⟩=>step hs he ho λ v s1 ρ1 H1 x _ u1 bo cS a6 aP=>by
  have a6:VR T ρ1 H1 v x:=a6
  cases v<;>try exact aP.elim
  rename_i t _ _
  obtain⟨hl,aP⟩:=aP.bK
  refine⟨t,a6.str_inv,hl,aP ρ1 H1 _ .refl bo ⟨λ ρ' s' H' u' kc _=>⟨λ j v e=>?_,by show t.length<=_;rw[List.length_map];exact Nat.le_refl _⟩⟩⟩
  rw[List.getElem?_map]at e
  cases ec:t.cps.toList[j]? with
  | none=>rw[ec]at e;cases e
  | some c=>
   rw[ec]at e
   cases e
   have hj:j < t.cps.size:=by
    have:=(List.getElem?_eq_some_iff.mp ec).1
    simpa using this
   refine⟨hj,λ y H'' ⟨e1,c',GS,ey⟩=>?_⟩
   subst e1 ey
   have:c'=c:=by
    rw[Array.getElem?_toList]at ec
    rw[ec]at GS
    exact(Option.some.inj GS).symm
   subst this
   exact⟨.refl,kc,hJ⟩
end
end Mm
namespace L2
open PySem PySem.Spec PySem.W PyProof.Rows
section
variable {M:Model}{A:Around}{E:Value->Shared->Prop}{s:Shared}
end
end L2
namespace L2
open PySem PySem.Spec PySem.W PyProof.Rows
section
variable {M:Model}{A:Around}{E:Value->Shared->Prop}{K:PySem.W.Frag}{C D:Addr}{nm RF:Str}{bm RZ:List Value}{P0 PZ:Option Value}
end
section
variable {X:Cx}{pins:List (Addr × Obj)}{σ:St}{H:Hp}{s:Shared}
end
end L2
namespace Mm
open PySem L2
section
variable {T:Tx}{XE:fU}{X:Cx}{pos:Pos}
end
end Mm
namespace L2
open PySem PySem.Spec PySem.W PyProof.Rows
section
variable {X:Cx}{e:Expr}{es:List Expr}{v:V}{vs:List V}
end
end L2
namespace Mm
open PySem L2
section
variable {T:Tx}{XE:fU}{X:Cx}{pos:Pos}
end
end Mm
namespace Mm
open PySem L2 PySem.W
section
variable {T:Tx}{XE:fU}{X:Cx}{pos:Pos}{mg:Str->Option Value}
end
end Mm
namespace Ro
open PySem L2 Mm
section
variable {P:Program}{w:World}{T:Tx}{mg:Str->Option Value}{base:Heap}
end
end Ro
namespace Mm
open PySem L2
section
variable {T:Tx}{XE:fU}{X:Cx}{pos:Pos}
end
end Mm
namespace Ro
open PySem L2 Mm
section
variable {P:Program}{w:World}{T:Tx}{mg:Str->Option Value}{base:Heap}
end
end Ro
namespace Mm
open PySem L2
section
variable {T:Tx}{XE:fU}{X:Cx}{pos:Pos}
def qy:List AV->Option (List Str)
 | []=>some []
 | .str x :: r=>(qy r).map (x :: ·)
 | _=>none
theorem nq:∀ {l:List AV}{ss:List Str},qy l=some ss->l=ss.map AV.str
 | [],_,h=>by cases h;rfl
 | .str x :: r,ss,h=>by
  have h:(qy r).map (x :: ·)=some ss:=h
  cases e:qy r with
  | none=>rw[e]at h;cases h
  | some q=>rw[e]at h;cases h;rw[List.map_cons,<-nq e]
 | .aY :: _,_,h=>by cases h
 | .bl _ :: _,_,h=>by cases h
 | .int _ :: _,_,h=>by cases h
 | .tup _ :: _,_,h=>by cases h
 | .ref _ :: _,_,h=>by cases h
 | .sq _ :: _,_,h=>by cases h
end
end Mm
namespace L2
open PySem PySem.Spec PySem.W PyProof.Rows
def Ia (K:PySem.W.Frag):List V->Hp->VK->Prop:=λ xs H Q=>∃ (t:String) (x:V) (tp:Addr) (b:Bool),xs=[x,.ref tp]/\H tp=some (.tup [.ty "list",.ty "tuple"])/\Hd K H x t/\kitAny K (.type t) [.type "list",.type "tuple"]=some b/\Q (.bl b) H
theorem yh {X:Cx}:cg X (.builtin "isinstance") (Ia X.K):=by
 intro pins s σ H xs us Q I r h
 obtain⟨t,x,tp,b,rfl,ht,hd,e,q⟩:=h
 obtain⟨u,w',rfl,ru,sE⟩:=vals2 r
 cases (show w'=Value.ref tp from sE)
 have fin:∀ tk,EP X pins σ Q (.bool b) { s with toks:=tk }:=λ tk=>⟨.bl b,H,I.tok tk,rfl,q⟩
 obtain⟨z,ws,r3,ot,o1,o2,n,o3⟩:=I.bN _ _ ht
 obtain⟨oc,odd,Px,vX⟩:=ot
 cases (show oc=_ from o2)
 cases (show Px=_ from o3)
 obtain⟨w1,w2,rfl,q1,q2⟩:=vals2 r3
 cases (show w1=Value.type "list" from q1)
 cases (show w2=Value.type "tuple" from q2)
 cases x with
 | aY=>cases (show t=_ from hd);cases (show u=Value.none from ru);exact kia_tup kitx_none I.lQ True.intro o1 e (λ z=>nomatch z) fin
 | bl y=>cases (show t=_ from hd);cases (show u=Value.bool y from ru);exact kia_tup kitx_bool I.lQ True.intro o1 e (λ z=>nomatch z) fin
 | int y=>cases (show t=_ from hd);obtain⟨t,q⟩:=(show ∃ t,u=Value.int y t from ru);cases q;exact kia_tup kitx_int I.lQ True.intro o1 e (λ z=>nomatch z) fin
 | str y=>cases (show t=_ from hd);obtain⟨t,q⟩:=(show ∃ t,u=Value.str y t from ru);cases q;exact kia_tup kitx_str I.lQ True.intro o1 e (λ z=>nomatch z) fin
 | ref a=>
  cases ru
  rcases hd with⟨rfl,ys,q1⟩|⟨rfl,ys,q1⟩|⟨rfl,hk⟩
  ·obtain⟨its,_,p,_⟩:=I.tuple q1
   obtain⟨o,h1,h2,_⟩:=p
   exact kia_tup kitx_tuple I.lQ ⟨o,h1,h2⟩ o1 e (λ z=>nomatch z) fin
  ·obtain⟨its,_,p,_⟩:=I.list q1
   obtain⟨o,h1,h2,_⟩:=p.isList
   exact kia_tup kitx_list I.lQ ⟨o,h1,h2⟩ o1 e (λ z=>nomatch z) fin
  ·have z:∃ o,s.heap.get? a=some o/\o.ExactDict:=by
    rcases hk with⟨kvs,hk⟩|⟨kvs,hk⟩
    ·obtain⟨_,_,_,_,o,_,_,e,ex,_⟩:=I.bN a _ hk
     exact⟨o,e,ex⟩
    ·obtain⟨_,_,_,_,o,_,_,e,ex,_⟩:=I.bN a _ hk
     exact⟨o,e,ex⟩
   obtain⟨o,h1,h2⟩:=z
   exact kia_tup kitx_dict I.lQ ⟨o,h1,h2.1⟩ o1 e (λ z=>nomatch z) fin
 | vn y=>exact False.elim hd
 | DH y=>exact False.elim hd
 | ty y=>exact False.elim hd
theorem xE {X:Cx}:e_ X (compareOp .LtE) (λ x y H Q=>∃ i j,x=.str i/\y=.str j/\Q (.bl (!decide (j.cps.toList < i.cps.toList))) H):=by
 intro pins s σ H x y v u Q I rx ry h
 obtain⟨i,j,rfl,rfl,q⟩:=h
 obtain⟨t,rfl⟩:=rx
 obtain⟨t',rfl⟩:=ry
 exact PySem.P.le_str (a7 I q rfl)
def Lx:V->Option Int->Option Int->Hp->VK->Prop:=λ x lo hi H Q=>∃ z,x=.str z/\z.length<=sizeLine/\Q (.str (Txt.slice z lo hi)) H
theorem Ep {X:Cx}:Hy X Lx:=by
 intro pins s σ H x v vl vu lo hi sl Q I rx hs pl pu h
 obtain⟨z,rfl,hz,q⟩:=h
 obtain⟨t,rfl⟩:=rx
 refine⟨"str",_,PySem.F.slot_str_getitem.lookup,typeIs_str _ _ _,?_⟩
 have fin:∀ (t':Tok) (k:Nat),EP X pins σ Q (.str (Txt.slice z lo hi) t') { s with toks:=k }:=λ t' k=>⟨.str _,H,I.tok _,⟨_,rfl⟩,q⟩
 cases pl<;>cases pu
 ·exact wpAny_getItem_str_slice (l:=none) (u:=none) (st:=none) hs rfl (post_val_or_str ⟨Nat.le_trans (Txt.slice_le z _ _) hz,fin⟩)
 ·exact wpAny_getItem_str_slice (l:=none) (u:=some (_,_)) (st:=none) hs rfl (post_val_or_str ⟨Nat.le_trans (Txt.slice_le z _ _) hz,fin⟩)
 ·exact wpAny_getItem_str_slice (l:=some (_,_)) (u:=none) (st:=none) hs rfl (post_val_or_str ⟨Nat.le_trans (Txt.slice_le z _ _) hz,fin⟩)
 ·exact wpAny_getItem_str_slice (l:=some (_,_)) (u:=some (_,_)) (st:=none) hs rfl (post_val_or_str ⟨Nat.le_trans (Txt.slice_le z _ _) hz,fin⟩)
theorem kC {P:Program}{w:World}:∀ {vs:List Value}{ns:List Str},Sx.eG (PySem.strKind P w) vs ns->StrsAre vs ns
 | [],[],_=>.nil
 | v :: vs,n :: ns,h=>by
  obtain⟨t,e⟩:=Value.isStrOf_shape (show Value.isStrOf n v=true from h.1)
  subst e
  exact .cons n t (kC h.2)
 | [],_ :: _,h=>h.elim
 | _ :: _,[],h=>h.elim
def Bq {P:Program}{w:World}(knd:PySem.KeyKind P w Str):List V->Hp->VK->Prop:=λ xs H Q=>∃ (d:Addr) (ks:List Str),xs=[.ref d]/\H d=some (Bo knd d ks)/\ks.length < 64/\∀ l,H l=none->Q (.ref l) (upd H l (.lst ((df ks).map V.str)))
theorem ud {X:Cx}(hc:X.calm=true):cg X (.builtin "sorted") (Bq (PySem.strKind X.prog X.w)):=by
 rintro pins s σ H xs us Q I rv ⟨d,ks,rfl,hH,MS,q⟩
 obtain⟨u,rfl,ru⟩:=rv.one
 cases (show u=Value.ref d from ru)
 have hS:Sx.gw (PySem.strKind X.prog X.w) s.heap d ks:=(I.bN d _ hH).1
 refine PySem.Calls.call_function_entry kind_sorted plain_sorted entry_sorted (args_sorted1 _) ?_
 unfold Builtin.«sorted»
 refine wpAny_bind (m:=checkCount "sorted" 1 1 _) (wpAny_pure ?_)
 refine wpAny_bind (Sx.sA (A:=X.A.in1) (I.ok.hd hc) hS λ h' tk dr vs jF Gq k1 k2=>?_)
 have hI:=kC k1
 have hl:vs.length=ks.length:=by rw[k1.length,k2.length_eq]
 refine wpAny_bind (wpAny_newList ?_ (by rw[hl];exact Nat.le_of_lt (a4 (by omega))))
 have hoL:(h'.push (seqObj "list" vs.toArray 0)).get? h'.objs.size=some (seqObj "list" vs.toArray 0):=Heap.get?_push_size _ rfl
 refine wpAny_bind (wpAny_holding (wpAny_call_entry slot_list_sort ⟨_,hoL,rfl⟩ entry_list_sort (list_sort_treeK strKind_oneLt hoL hI.keysOf (λ v₁ v₂ rest e=>keyKind_strs (by rw[<-e];exact hI)) (by rw[hl];exact MS) λ eK a1 a2=>⟨_,rfl,?_⟩) (args_list_sort _)))
 obtain⟨Lo,h1,h2,h3⟩:=sorted_out_str hI a1 a2
 have e1:Lo=df ks:=jN (h2.trans k2) (hW h3)
 subst e1
 have hold:∀ b u,s.heap.get? b=some u->b≠h'.objs.size:=λ b u e=>Nat.ne_of_lt (Heap.lt_size (Gq b u e))
 have MQ:H h'.objs.size=none:=by
  cases q0:H h'.objs.size with
  | none=>rfl
  | some o=>obtain⟨u,hu⟩:=(I.bN _ o q0).nr;exact absurd rfl (hold _ u hu)
 obtain⟨ec,MI⟩:=sortedHeap_at hoL (out:=(arrOf eK).map (·.2))
 refine wpAny_pure ⟨_,rfl,.ref h'.objs.size,upd H h'.objs.size (.lst ((df ks).map V.str)),?_,rfl,q _ MQ⟩
 refine(I.drawn dr).grown (t':=tk) (λ b u e=>?_) (λ b u e=>aD (hold b u e)) λ b o e z=>?_
 ·have e:s.heap.get? b=some u:=e
  rw[sortedHeap_old (hold b u e) (by rw[Heap.size_push];exact Nat.lt_succ_of_lt (Heap.lt_size (Gq b u e)))]
  exact Heap.get?_push_of_some _ (Gq b u e)
 ·by_cases hb:b=h'.objs.size
  ·subst hb
   rw[aQ]at z
   cases z
   refine⟨by rw[List.length_map,h2.length_eq,k2.length_eq];exact Nat.le_of_lt (a4 (by omega)),_,ec,fA h1,?_⟩
   rw[MI]
  ·rw[aD hb]at z
   obtain⟨u,hu⟩:=(I.bN b o z).nr
   have e:s.heap.get? b=none:=e
   rw[hu]at e;cases e
end L2
namespace Mm
open PySem L2 Sx
section
variable {T:Tx}{XE:fU}{X:Cx}{pos:Pos}
def isLT (t:String):Bool:=t == "list" || t == "tuple"
def ib (v:AV)(s:S):R AV:=need (cf v s) λ t=>.ok (.bl (isLT t)) s
theorem FX {K:PySem.W.Frag}{t:String}(h:t∈dh):PySem.W.kitAny K (.type t) [.type "list",.type "tuple"]=some (isLT t):=by
 simp only[dh,List.mem_cons,List.not_mem_nil,or_false]at h
 rcases h with rfl|rfl|rfl|rfl|rfl|rfl|rfl<;>(first|rfl|decide +kernel)
theorem Cm {p p2 p3 p4:Pos}{k:Nat}{e:Expr}{m:Ev}(hK:X.K=T.K)(hm:X.mg "isinstance"=none)(CD:X.mg "list"=none)(Ju:X.mg "tuple"=none)(ha:PE X e (tE T XE m)) (hg:Gl X "isinstance":=by rfl)(MD:Gl X "list":=by rfl)(Jy:Gl X "tuple":=by rfl)
  (he:starEach [e,.Tuple [.Name "list" p3,.Name "tuple" p4] k p2] X.env=(false,eval e X.env) :: starEach [.Tuple [.Name "list" p3,.Name "tuple" p4] k p2] X.env:=by rfl) (Hu:starEach [.Tuple [.Name "list" p3,.Name "tuple" p4] k p2] X.env=(false,eval (.Tuple [.Name "list" p3,.Name "tuple" p4] k p2) X.env) :: starEach [] X.env:=by rfl)
  (i':(backTo pos (starEach [.Tuple [.Name "list" p3,.Name "tuple" p4] k p2] X.env)).any (·.1)=false:=by rfl)
  (Qc:starEach [.Name "list" p3,.Name "tuple" p4] X.env=(false,eval (.Name "list" p3) X.env) :: starEach [.Name "tuple" p4] X.env:=by rfl) (Qb:starEach [.Name "tuple" p4] X.env=(false,eval (.Name "tuple" p4) X.env) :: starEach [] X.env:=by rfl) :
  PE X (.Call (.Name "isinstance" p) [e,.Tuple [.Name "list" p3,.Name "tuple" p4] k p2] [] pos) (tE T XE (cK ib m)):=
 PE.imp (gY yh hg hm Ro.boot_isinstance (cQ ha (cQ (zc (cQ (qH (v:=.ty "list") MD CD Ro.boot_list rfl) (cQ (qH (v:=.ty "tuple") Jy Ju Ro.boot_tuple rfl) gK Qb) Qc)) gK Hu) he) (by decide) (by decide) he i') λ σ H Q ⟨ρ,env,s,hs,he,ho⟩=>
  step hs he ho λ v s1 ρ1 H1 x _ u1 bo cS a6 aP=>by
   obtain⟨t,e,aP⟩:=aP.aI
   obtain⟨h1,h2⟩:=qz e bo a6
   refine⟨by show(2:Nat)<=sizeLine;rw[sizeLine_eq];decide,λ tp hn=>⟨t,x,tp,_,rfl,aQ,?_,FX h2,(Out.up (bo.dX hn) aP).aW (bo.new hn) dM⟩⟩
   rw[hK]
   exact(qz e (bo.new (o:=.tup [.ty "list",.ty "tuple"]) hn) (VR.up (bo.dX hn) a6)).1
def iU:AV->AV->S->R AV
 | .str i,.str j,s=>.ok (.bl (!decide (j.cps.toList < i.cps.toList))) s
 | _,_,_=>.bad
theorem B6:e_ X (compareOp .LtE) (lF T XE iU):=by
 intro pins s σ H x y v u Q I rx ry ⟨ρ,a,b,st,sr,va,vb,ho⟩
 cases a<;>cases b<;>try exact ho.elim
 exact xE pins s σ H x y v u Q I rx ry ⟨_,_,va.str_inv,vb.str_inv,ho.aW sr dM⟩
theorem uF {v:List Expr}{p:Pos}{x:Str}{q:Pos}{n:Nat}{env:Env}:swapsWith (.List v p) (some (.Name x q)) n env=pure false:=rfl
theorem B_ {i:Nat}{x:Str}{v:List Expr}{p pos':Pos}{l:dR}(hN:X.N.Nodup)(he:PA X v (tP T XE l)) (hi:X.N[i]? = some x)(hx:Loc X.env.scope x)(hf:X.fn x=true∨X.env.scope.names.lookup x=some .local) :
  PS X (.Assign [.Name x pos'] (.List v p) pos) (tS T XE (aO i (aF (bz l)))):=zy hN (zF (zD he)) hi hx uF hf
def IA (v:AV)(lo hi:Option Int)(s:S):R AV:=match v with
 | .str z=>if z.length<=sizeLine then .ok (.str (Txt.slice z lo hi)) s else .bad
 | _=>.bad
def xJ (m:Ev)(lo hi:Eo):Ev:=λ env s=>(m env s).bind λ v s1=>(lo env s1).bind λ l s2=>(hi env s2).bind λ h s3=>IA v l h s3
theorem FC {e:Expr}{lo hi:Option Expr}{p2:Pos}{m:Ev}{ml mh:Eo}(he:PE X e (tE T XE m)) (hl:PO X lo (tO T XE ml)) (hh:PO X hi (tO T XE mh)):PE X (.Subscript e (.Slice lo hi none p2) pos) (tE T XE (xJ m ml mh)):=
 PE.imp (sI Ep he hl hh) λ σ H Q ⟨ρ,env,s,hs,he,ho⟩=>
  step hs he ho λ v s1 ρ1 H1 x _ u1 bo cS a6 aP=>step bo cS aP λ l s2 ρ2 H2 l' _ u2 hV mJ e2 c9=>step hV mJ c9 λ h s3 ρ3 H3 h' _ u3 oX Az e3 u9=>by
   cases (show l=l' from e2)
   cases (show h=h' from e3)
   have a6:VR T ρ1 H1 v x:=a6
   cases v with
   | str z=>
    cases a6.str_inv
    obtain⟨hz,Js⟩:=u9.bK
    exact⟨z,rfl,hz,Js.aW oX hJ⟩
   | _=>exact u9.elim
def nE (vs:List AV)(s:S):R (List AV):=need (qy vs) λ ns=>if ns.length < 64 then .ok ((df (uniq ns)).map .str) s else .bad
def oA (m:Ev):dR:=λ env s=>(m env s).bind λ v s1=>match v with
 | .ref i=>need (aq s1 i) λ l=>nE l s1
 | _=>.bad
theorem zC {e:Expr}{p p2 BE:Pos}{m:Ev}(hm:X.mg "sorted"=none)(Ju:X.mg "set"=none)(h:PE X e (tE T XE m)) (KG:X.calm=true:=by rfl)(hg:Gl X "sorted":=by rfl)(Jy:Gl X "set":=by rfl)
  (he:starEach [.Call (.Name "set" p2) [e] [] BE] X.env=(false,eval (.Call (.Name "set" p2) [e] [] BE) X.env) :: starEach [] X.env:=by rfl) (i':(backTo pos (starEach [] X.env)).any (·.1)=false:=by rfl)
  (Hu:starEach [e] X.env=(false,eval e X.env) :: starEach [] X.env:=by rfl) (Mr:(backTo BE (starEach [] X.env)).any (·.1)=false:=by rfl) :
  PE X (.Call (.Name "sorted" p) [.Call (.Name "set" p2) [e] [] BE] [] pos) (tL T XE (oA m)):=
 PE.imp (gY (ud KG) hg hm PyProof.Rows.boot_sorted (cQ (lG (vm KG M4) Jy Ju boot_set (cQ h gK Hu) (by decide) (by decide) Hu Mr) gK he) (by decide) (by decide) he i') λ σ H Q ⟨ρ,env,s,hs,he,ho⟩=>step hs he ho λ v s1 ρ1 H1 x _ u1 bo cS a6 aP=>by
  cases v with
  | ref i=>
   obtain⟨l,e1,c9⟩:=aP.aI
   obtain⟨a,vs,rfl,ea,h1,k⟩:=bo.dN (ay e1) a6
   obtain⟨ns,e2,u9⟩:=c9.aI
   obtain⟨hl,Js⟩:=u9.bK
   rw[nq e2]at k
   cases k.sm
   refine⟨a,ns,rfl,h1,Bl hl,λ d hd=>⟨d,uniq ns,rfl,aQ,?_,λ l Hr=>?_⟩⟩
   ·have:=tN ns []
    unfold uniq
    simp only[List.length_nil]at this
    omega
   ·exact(Out.up (bo.dX hd) Js).lst (bo.new hd) Hr (aR.map (λ _=>hJ) _)
  | _=>exact aP.elim
end
mutual
def t_:AV->Nat
 | .tup xs=>qk xs+1
 | .sq xs=>qk xs+1
 | _=>0
def qk:List AV->Nat
 | []=>0
 | v :: r=>max (t_ v) (qk r)
end
section
variable {T:Tx}{XE:fU}{X:Cx}{pins:List (Addr × Obj)}{σ:St}{H:Hp}{s:Shared}{ρ:List Addr}
end
section
variable {T:Tx}{XE:fU}{X:Cx}{pos:Pos}
end
end Mm
namespace L2
open PySem PySem.Spec PyProof.Rows
section
variable {prog:Program}{w:World}{A:Around}{E:Value->Shared->Prop}{s:Shared}
theorem xI (l m:Addr)(xs ys:Array Value) :
  Meets (Builtin.«zip.__new__» ⟨[.type "zip",.ref l,.ref m],[]⟩) (λ _ R s=>s.heap.IsTuple l xs/\s.heap.IsList m ys/\
   R (.ok (.ret (.ref (s.heap.objs.size+4)))) { s with heap:=((((s.heap.push { cls:=.type "tuple_iterator",data:=.fields #[.ref l,.int 0 0] }).push { cls:=.type "list_iterator",data:=.fields #[.ref m,.int 0 0] }).push
    { cls:=.type "tuple",data:=.seq #[.ref s.heap.objs.size,.ref (s.heap.objs.size+1)] }).push { cls:=.type "tuple",data:=.seq #[.none,.none] }).push { cls:=.type "zip",data:=.fields #[.none,.bool false,.bool false,.ref (s.heap.objs.size+2),.ref (s.heap.objs.size+3)] } }):=
 .of_wp λ prog w A R s h=>by
  obtain⟨hp,g,d,tk,os⟩:=s;obtain⟨p_,qY,h⟩:=h
  have Ml:=sub_zip
  have MP:Heap.IsTuple (Shared.heap ⟨hp,g,d,tk,os⟩) l xs:=p_
  have MO:Heap.IsList (Shared.heap ⟨hp.push { cls:=.type "tuple_iterator",data:=.fields #[.ref l,.int 0 0] },g,d,tk,os⟩) m ys:=Heap.IsList.push qY _
  wp_walk using wpAny_pyIter_tuple MP,wpAny_pyIter_list MO
  simp only[Heap.size_push]at h ⊢
  exact⟨_,rfl,h⟩
theorem xi {c c2:Bool}{l m:Addr}{xs ys:Array Value}{Q:Value->Shared->Prop}(A3:c=false->c2=false)(p_:lA c s.heap l xs)(qY:lA c2 s.heap m ys)
    (k:∀ h',ZK c c2 h' (s.heap.objs.size+4) (s.heap.objs.size+2) (s.heap.objs.size+3) s.heap.objs.size (s.heap.objs.size+1) l m 0->(∀ d o,s.heap.get? d=some o->h'.get? d=some o)->Q (.ref (s.heap.objs.size+4)) { s with heap:=h' }) :
    wpAny (model prog w) A (call (.type "zip") [.ref l,.ref m]) Q E s:=by
  cases c with
  | false=>cases A3 rfl;exact r8 p_ qY k
  | true=>
   cases c2 with
   | true=>exact r8 p_ qY k
   | false=>
    refine callType_new F.called_zip (by decide) (F.typeCall_zip_2 _ _) (F.newCall_zip_2 _ _) (λ obj=>F.args_object_init_3 obj _ _) F.entry_zip_new (xI l m xs ys) ⟨p_,qY,?_⟩
    have p:∀ (h:Heap) (o1 o2 o3 o4 o5:Obj) (d:Addr) (o:Obj),h.get? d=some o->(((((h.push o1).push o2).push o3).push o4).push o5).get? d=some o:=λ h o1 o2 o3 o4 o5 d o e=>
      Heap.get?_push_of_some _ (Heap.get?_push_of_some _ (Heap.get?_push_of_some _ (Heap.get?_push_of_some _ (Heap.get?_push_of_some _ e))))
    have q5:∀ (h:Heap) (o1 o2 o3 o4 o5:Obj),o5.isFreed=false->(((((h.push o1).push o2).push o3).push o4).push o5).get? (h.objs.size+4)=some o5:=λ h o1 o2 o3 o4 o5 f=>by
      have e:h.objs.size+4=((((h.push o1).push o2).push o3).push o4).objs.size:=by simp only[Heap.size_push]
      rw[e];exact Heap.get?_push_size _ f
    have q4:∀ (h:Heap) (o1 o2 o3 o4 o5:Obj),o4.isFreed=false->(((((h.push o1).push o2).push o3).push o4).push o5).get? (h.objs.size+3)=some o4:=λ h o1 o2 o3 o4 o5 f=>by
      have e:h.objs.size+3=(((h.push o1).push o2).push o3).objs.size:=by simp only[Heap.size_push]
      rw[e];exact Heap.get?_push_of_some _ (Heap.get?_push_size _ f)
    have q3:∀ (h:Heap) (o1 o2 o3 o4 o5:Obj),o3.isFreed=false->(((((h.push o1).push o2).push o3).push o4).push o5).get? (h.objs.size+2)=some o3:=λ h o1 o2 o3 o4 o5 f=>by
      have e:h.objs.size+2=((h.push o1).push o2).objs.size:=by simp only[Heap.size_push]
      rw[e];exact Heap.get?_push_of_some _ (Heap.get?_push_of_some _ (Heap.get?_push_size _ f))
    have q2:∀ (h:Heap) (o1 o2 o3 o4 o5:Obj),o2.isFreed=false->(((((h.push o1).push o2).push o3).push o4).push o5).get? (h.objs.size+1)=some o2:=λ h o1 o2 o3 o4 o5 f=>by
      have e:h.objs.size+1=(h.push o1).objs.size:=by simp only[Heap.size_push]
      rw[e];exact Heap.get?_push_of_some _ (Heap.get?_push_of_some _ (Heap.get?_push_of_some _ (Heap.get?_push_size _ f)))
    have q1:∀ (h:Heap) (o1 o2 o3 o4 o5:Obj),o1.isFreed=false->(((((h.push o1).push o2).push o3).push o4).push o5).get? h.objs.size=some o1:=λ h o1 o2 o3 o4 o5 f=>
      Heap.get?_push_of_some _ (Heap.get?_push_of_some _ (Heap.get?_push_of_some _ (Heap.get?_push_of_some _ (Heap.get?_push_size _ f))))
    exact⟨⟨_,q5 _ _ _ _ _ _ rfl,rfl⟩,k _ ⟨q5 _ _ _ _ _ _ rfl,q3 _ _ _ _ _ _ rfl,⟨_,_,q4 _ _ _ _ _ _ rfl⟩,⟨_,q1 _ _ _ _ _ _ rfl,rfl,rfl⟩,⟨_,q2 _ _ _ _ _ _ rfl,rfl,rfl⟩⟩ λ d o e=>p _ _ _ _ _ _ d o e⟩
end
def Itm (c e:Bool)(K:PySem.W.Frag)(a b:Addr):It:=
  ⟨λ i H=>∃ xs ys x y,rR c K H a xs/\rR e K H b ys/\xs[i]? = some x/\ys[i]? = some y,
   λ i H v H'=>∃ T x y,v=.ref T/\H T=none/\H'=upd H T (.tup [x,y])/\∀ xs ys,rR c K H a xs->rR e K H b ys->xs[i]? = some x/\ys[i]? = some y,
   λ i H=>∃ xs ys,rR c K H a xs/\rR e K H b ys/\(xs.length<=i∨ys.length<=i)⟩
theorem xk {P:Program}{w:World}{K:PySem.W.Frag}{es:List Expr}{kk:Nat}{uC:Pos}(c c2:Bool)(l m z a b i j:Addr)(D:ZipApart z a b i j l m) :
  Turn P w K (.Tuple es kk uC) (Itm c c2 K l m) [z,a,b,i,j] z (λ n h=>ZK c c2 h z a b i j l m n) where
 mem:=by simp
 obj:=λ n h st d hd=>by
  obtain⟨hz,A4,⟨p1,p2,CH⟩,h1,h2⟩:=st
  simp only[List.mem_cons,List.not_mem_nil,or_false]at hd
  rcases hd with rfl|rfl|rfl|rfl|rfl
  ·exact⟨_,hz,λ v e=>nomatch e⟩
  ·exact⟨_,A4,λ v e=>nomatch e⟩
  ·exact⟨_,CH,λ v e=>nomatch e⟩
  ·exact h1.obj
  ·exact h2.obj
 keep:=λ n h h' st k=>by
  obtain⟨hz,A4,⟨p1,p2,CH⟩,h1,h2⟩:=st
  exact⟨k z (by simp) _ hz,k a (by simp) _ A4,⟨p1,p2,k b (by simp) _ CH⟩,h1.at λ o e=>k i (by simp) o e,h2.at λ o e=>k j (by simp) o e⟩
 item:=by
  intro X hP hw hK hc n pins s σ H E I hf st hg
  subst hP hw hK
  obtain⟨xs,ys,x,y,Kx,Kw,hx,hy⟩:=hg
  obtain⟨Jf,r1,p1⟩:=I.Hj Kx
  obtain⟨cU,r2,p2⟩:=I.Hj Kw
  obtain⟨u1,e1,Lv⟩:=r1.get hx
  obtain⟨u2,e2,Lu⟩:=r2.get hy
  refine A6 D st p1 p2 (by simpa using e1) (by simpa using e2) λ h' z1 a1 b1 i1 j1 T1 kp=>?_
  refine⟨_,rfl,wpAny_letOwnedTupleGo_zip (s:={ s with heap:=h' }) z1 λ h2 z2 t2=>?_⟩
  have Oy:H s.heap.objs.size=none:=I.bN.fresh (Nat.le_refl _)
  have zT:s.heap.objs.size≠z:=Nat.ne_of_gt (Heap.lt_size (show s.heap.get? z=some _ from st.zz))
  have ym:∀ d o,d∉[z,a,b,i,j]->s.heap.get? d=some o->h2.get? d=some o:=λ d o hd e=>by
   simp only[List.mem_cons,List.not_mem_nil,or_false,not_or]at hd
   exact t2.extBut _ _ hd.1 (kp d o hd.1 hd.2.2.1 hd.2.2.2.1 hd.2.2.2.2 e)
  have T2:IsPair h2 s.heap.objs.size u1 u2:=t2.extBut _ _ zT T1
  have IK:∀ d o,H d=some o->d∉[z,a,b,i,j]:=λ d o e hd=>by rw[(hf d hd).1]at e;cases e
  have nT:∀ d o,H d=some o->d≠s.heap.objs.size:=λ d o e q=>by rw[q,Oy]at e;cases e
  have newOk:j7 X.prog X.w (upd H s.heap.objs.size (.tup [x,y])) h2:=by
   intro d o e
   by_cases hd:d=s.heap.objs.size
   ·subst hd
    rw[aQ]at e
    cases e
    exact⟨by show 2<=sizeLine;decide,[u1,u2],.cons Lv (.cons Lu .nil),_,T2,rfl,0,rfl⟩
   ·rw[aD hd]at e
    refine(I.bN d o e).sv (λ q v hq r=>ym q v ?_ r) (λ q r=>by rw[aD (nT q _ r)];exact r) (λ q KR r=>by rw[aD (nT q _ r)];exact r)
    rcases hq with rfl|hq
    ·exact IK _ _ e
    ·exact IK _ _ hq
  have I2:Inv X pins σ (upd H s.heap.objs.size (.tup [x,y])) { s with heap:=h2 }:=by
   refine I.step (g':=s.gens) (d':=s.drawn) (t':=s.toks) (ch:=[z,a,b,i,j]) (λ d hd=>⟨(hf d hd).2.2.2.1,(hf d hd).2.1,(hf d hd).2.2.2.2.1,(hf d hd).2.2.2.2.2⟩) (λ d o _ _ hd e _=>ym d o hd e) (λ d o _ _ hd e _=>⟨o.slots,ym d o hd e⟩)
    (λ d o hd e nn=>by rw[aD (Nat.ne_of_lt (Heap.lt_size e))];exact nn) (λ d o hd e=>⟨o,ym d o hd e⟩) (λ d KR e=>by rw[aD (nT d _ e)];exact e) (λ d o u e=>by rw[aD (nT d _ e)];exact e)
    (λ d ps e=>⟨#[],by rw[aD (nT d _ e),e];simp⟩) (λ mm hm=>?_) newOk I.bare
   obtain⟨o,es',ep,ho,r⟩:=hm
   exact⟨o,es',ep,ym _ o (λ hd=>(hf _ hd).2.1 rfl) ho,r⟩
  refine⟨.ref s.heap.objs.size,_,I2,rfl,⟨_,x,y,rfl,Oy,rfl,λ KR Ke k1 k2=>?_⟩,?_,λ d hd=>?_⟩
  ·rw[I.vF k1 Kx,I.vF k2 Kw]
   exact⟨hx,hy⟩
  ·exact⟨z2,t2.extBut _ _ D.TIz a1,⟨_,_,t2.extBut _ _ D.TOz b1⟩,i1.at λ o e=>t2.extBut _ _ D.i1z e,j1.at λ o e=>t2.extBut _ _ D.i2z e⟩
  ·have QD:d≠s.heap.objs.size:=by
    rintro rfl
    have lt:∀ {q:Addr}{o:Obj},s.heap.get? q=some o->s.heap.objs.size≠q:=λ e=>Nat.ne_of_gt (Heap.lt_size e)
    simp only[List.mem_cons,List.not_mem_nil,or_false]at hd
    obtain⟨o1,g1,_⟩:=st.i1.obj
    obtain⟨o2,g2,_⟩:=st.i2.obj
    obtain⟨y1,y2,g3⟩:=st.out
    rcases hd with q|q|q|q|q
    ·exact lt st.zz q
    ·exact lt st.ins q
    ·exact lt g3 q
    ·exact lt g1 q
    ·exact lt g2 q
   rw[aD QD]
   exact(hf d hd).1
 done:=by
  intro X hP hw hK hc n pins s σ H E I hf st hg
  subst hP hw hK
  obtain⟨xs,ys,Kx,Kw,hx⟩:=hg
  obtain⟨Jf,r1,p1⟩:=I.Hj Kx
  obtain⟨cU,r2,p2⟩:=I.Hj Kw
  have n1:=r1.length
  have n2:=r2.length
  refine DV (I.ok.hd hc) D st p1 p2 (hx.elim (λ q=>.inl (by simp;omega)) λ q=>.inr (by simp;omega)) λ h' kp=>⟨rfl,?_⟩
  have ym:∀ d o,d∉[z,a,b,i,j]->s.heap.get? d=some o->h'.get? d=some o:=λ d o hd e=>by
   simp only[List.mem_cons,List.not_mem_nil,or_false,not_or]at hd
   exact kp d o hd.1 hd.2.2.1 hd.2.2.2.1 hd.2.2.2.2 e
  have IK:∀ d o,H d=some o->d∉[z,a,b,i,j]:=λ d o e hd=>by rw[(hf d hd).1]at e;cases e
  have there:∀ d o,s.heap.get? d=some o->d∉[z,a,b,i,j]->∃ o',h'.get? d=some o':=λ d o e hd=>⟨o,ym d o hd e⟩
  refine I.step (g':=s.gens) (d':=s.drawn) (t':=s.toks) (ch:=[z,a,b,i,j]) (λ d hd=>⟨(hf d hd).2.2.2.1,(hf d hd).2.1,(hf d hd).2.2.2.2.1,(hf d hd).2.2.2.2.2⟩) (λ d o _ _ hd e _=>ym d o hd e) (λ d o _ _ hd e _=>⟨o.slots,ym d o hd e⟩)
   (λ d o hd e nn=>nn) (λ d o hd e=>⟨o,ym d o hd e⟩) (λ d KR e=>e) (λ d o u e=>e) (λ d ps e=>⟨#[],by rw[e];simp⟩) (λ mm hm=>?_) (λ d o e=>?_) I.bare
  ·obtain⟨o,es',ep,ho,r⟩:=hm
   exact⟨o,es',ep,ym _ o (λ hd=>(hf _ hd).2.1 rfl) ho,r⟩
  ·refine(I.bN d o e).sv (λ q v hq r=>ym q v ?_ r) (λ _ r=>r) (λ _ _ r=>r)
   rcases hq with rfl|hq
   ·exact IK _ _ e
   ·exact IK _ _ hq
 self:=λ _ _ _ _ _ st h=>wpAny_pyIter_zip st.zz h
def Jh (K:PySem.W.Frag)(t:TA):TI:=λ σ H R=>t σ H λ vs H2=>∃ (c c2:Bool) (a b:Addr),(c=false->c2=false)/\vs=[.ref a,.ref b]/\(∃ xs,rR c K H2 a xs)/\(∃ ys,rR c2 K H2 b ys)/\R (Itm c c2 K a b) H2
theorem BJ {X:Cx}{es:List Expr}{kk:Nat}{uC:Pos}{e1 e2:Expr}{ta tb:TE}{p pos:Pos}(hg:Gl X "zip")(hm:X.mg "zip"=none)(h1:PE X e1 ta)(h2:PE X e2 tb)
  (hs:starEach [e1,e2] X.env=(false,eval e1 X.env) :: starEach [e2] X.env:=by rfl) (Mn:starEach [e2] X.env=[(false,eval e2 X.env)]:=by rfl) (i':(backTo pos (starEach [e2] X.env)).any (·.1)=false:=by rfl) :
  PI X (.Tuple es kk uC) (.Call (.Name "zip" p) [e1,e2] [] pos) (Jh X.K (sj ta (sj tb Bg))):=by
 intro pins s σ H R I h
 refine wpAny_Call_Name_kw (n4 I hg hm PyProof.Rows.boot_zip ?_)
 refine PyProof.Rows.callWith_type1 (bO ((cQ h1 (cQ h2 gK Mn) hs) pos pins s σ H _ I h) λ us s1 ⟨vs,H1,I1,r1,q1⟩=>?_) hs i'
 obtain⟨c,c2,a,b,A3,rfl,⟨xs,hx⟩,⟨ys,hy⟩,q⟩:=q1
 obtain⟨u1,u2,rfl,Lv,Lu⟩:=vals2 r1
 cases Lv
 cases Lu
 obtain⟨Jf,_,p1⟩:=I1.Hj hx
 obtain⟨cU,_,p2⟩:=I1.Hj hy
 have a1:a < s1.heap.objs.size:=by
  cases c with
  | true=>obtain⟨_,e,_⟩:=(show s1.heap.IsTuple a _ from p1);exact Heap.lt_size e
  | false=>obtain⟨_,e,_⟩:=(show s1.heap.IsList a _ from p1);exact Heap.lt_size e
 have a2:b < s1.heap.objs.size:=by
  cases c2 with
  | true=>obtain⟨_,e,_⟩:=(show s1.heap.IsTuple b _ from p2);exact Heap.lt_size e
  | false=>obtain⟨_,e,_⟩:=(show s1.heap.IsList b _ from p2);exact Heap.lt_size e
 refine xi A3 p1 p2 λ h' Z kp=>?_
 refine wpAny_pyIter_zip (s:={ s1 with heap:=h' }) Z.zz ?_
 refine⟨_,_,_,_,H1,rfl,I1.kept (t':=s1.toks) kp,xk c c2 a b _ _ _ _ _ (zipApart_new a1 a2),Z,λ d hd=>?_,q⟩
 have hle:s1.heap.objs.size<=d:=by
  simp only[List.mem_cons,List.not_mem_nil,or_false]at hd
  rcases hd with rfl|rfl|rfl|rfl|rfl
  ·exact Nat.le_add_right _ _
  ·exact Nat.le_add_right _ _
  ·exact Nat.le_add_right _ _
  ·exact Nat.le_refl _
  ·exact Nat.le_add_right _ _
 exact I1.vf hle (I1.bN.fresh hle)
end L2
namespace Mm
open PySem L2
section
variable {T:Tx}{XE:fU}{X:Cx}{pos:Pos}
def kindOf:AV->Bool
 | .tup _=>true
 | _=>false
def uv (v w:AV)(s:S):Option (List AV × Gd):=if kindOf v=false/\kindOf w=true then none else match sD (kindOf v) v s,sD (kindOf w) w s with
 | some (xs,g),some (ys,h)=>some (xj xs ys,g++h)
 | _,_=>none
theorem yu {v w:AV}{s:S}{r:List AV × Gd}(h:uv v w s=some r):∃ c c2 xs g ys h,(c=false->c2=false)/\sD c v s=some (xs,g)/\sD c2 w s=some (ys,h)/\r=(xj xs ys,g++h):=by
 unfold uv at h
 split at h
 ·cases h
 rename_i A3
 split at h
 ·rename_i xs g ys h' e1 e2
  cases h
  exact⟨_,_,xs,g,ys,h',(λ z=>by cases q:kindOf w with|false=>rfl|true=>exact absurd ⟨z,q⟩ A3),e1,e2,rfl⟩
 ·cases h
def jC (a b:Ev):Src:=λ env s=>(a env s).bind λ v s1=>(b env s1).bind λ w s2=>need (uv v w s2) λ r=>.ok r s2
theorem Cf {es:List Expr}{kk:Nat}{uC:Pos}{e1 e2:Expr}{p:Pos}{a b:Ev}(hK:X.K=T.K)(hm:X.mg "zip"=none)(h1:PE X e1 (tE T XE a)) (h2:PE X e2 (tE T XE b)) (hg:Gl X "zip":=by rfl)
  (hs:starEach [e1,e2] X.env=(false,eval e1 X.env) :: starEach [e2] X.env:=by rfl) (Mn:starEach [e2] X.env=[(false,eval e2 X.env)]:=by rfl) (i':(backTo pos (starEach [e2] X.env)).any (·.1)=false:=by rfl) :
  PI X (.Tuple es kk uC) (.Call (.Name "zip" p) [e1,e2] [] pos) (tW T XE (jC a b)):=
 PI.imp (BJ hg hm h1 h2 hs Mn i') λ σ H R ⟨ρ,env,s,hs,he,ho⟩=>step hs he ho λ v s1 ρ1 H1 x _ u1 bo cS a6 aP=>step bo cS aP λ w s2 ρ2 H2 y _ u2 hV mJ j' c9=>by
  obtain⟨r,e,c9⟩:=c9.aI
  obtain⟨c,c2,xs,g,ys,h,A3,q1,q2,rfl⟩:=yu e
  obtain⟨a1,rfl,x1,w1⟩:=sC q1 hV (VR.up u2 a6)
  obtain⟨a2,rfl,x2,w2⟩:=sC q2 hV j'
  refine⟨c,c2,a1,a2,A3,rfl,by rw[hK];exact x1,by rw[hK];exact x2,c9 ρ2 H2 _ .refl hV ⟨λ ρ' s' H' u' kc gk=>?_⟩⟩
  obtain⟨g1,g2⟩:=CL gk
  obtain⟨vs,k1,k2⟩:=w1 ρ' s' H' u' kc g1
  obtain⟨ws,k3,k4⟩:=w2 ρ' s' H' u' kc g2
  rw[hK]
  have p_:=k2.length
  have qY:=k4.length
  refine⟨λ j z ez=>?_,⟨vs,ws,k1,k3,?_⟩⟩
  ·have hj:j < xs.length/\j < ys.length:=by
    have:=(List.getElem?_eq_some_iff.mp ez).1
    simp only[xj,List.length_map,List.length_zip]at this
    omega
   have QZ:z=.tup [xs[j],ys[j]]:=by
    have q:(xj xs ys)[j]? = some (.tup [xs[j],ys[j]]):=by
     simp[xj,List.getElem?_zip_eq_some,hj.1,hj.2]
    rw[q]at ez
    exact(Option.some.inj ez).symm
   subst QZ
   obtain⟨x3,e3,v3⟩:=k2.get (List.getElem?_eq_getElem hj.1)
   obtain⟨x4,e4,v4⟩:=k4.get (List.getElem?_eq_getElem hj.2)
   refine⟨⟨vs,ws,x3,x4,k1,k3,e3,e4⟩,λ q H'' ⟨Tt,y1,y2,eq,hT,eH,hy⟩=>?_⟩
   obtain⟨f1,f2⟩:=hy vs ws k1 k3
   rw[e3]at f1;rw[e4]at f2
   cases f1;cases f2
   subst eq eH
   exact⟨kc.dX hT,kc.new hT,jK (gF.of aQ) (aR.up (kc.dX hT) (.cons v3 (.one v4)))⟩
  ·rw[<-p_,<-qY]
   simp only[xj,List.length_map,List.length_zip]
   omega
end
end Mm
namespace Ro
open PySem L2 Mm
def eB:AV:=.int 8
def kS:AV:=.int 9
noncomputable def qv:Ms:=
 (aU (af ee (af bf (af ai (mv 0) (mc (.int 0))) (af ai (mv 1) (mc (.int 1)))) (af bf (af ai (mv 1) (mc (.int 0))) (af ai (mv 0) (mc (.int 1))))))
noncomputable def b_:List AV->S->R AV:=gh 2 qv
noncomputable def jj:Ms:=
 (aU (eJ (cK (bU "int") (mv 0)) (cK jD (cK (bU "bool") (mv 0)))))
noncomputable def bW:List AV->S->R AV:=gh 1 jj
noncomputable def jH:Ms:=
 (aU (eJ (cK (bU "tuple") (mv 0)) (af bI (gp dq (aa (mv 0) ah)) (mv 1))))
noncomputable def cm:List AV->S->R AV:=gh 2 jH
noncomputable def qu:Ms:=
 (au (dU (iM (cF (cT (cK (bU "str") (mv 0)))) (cF (cB (b9 my my (mc (.int 1)) (gp dq (aa (mv 0) ah)) (mc eB))))) (aU (mc (.bl false))) bH)
 (aU (dm dC (aK [("sign",none)] (sx (mv 0)) (gN 0) bE (b9 iU iU (mc (.str "a")) (mv 0) (mc (.str "z")))))))
noncomputable def fV:List AV->S->R AV:=gh 1 qu
noncomputable def jI:Ms:=
 (au (dU (iM (cF (cT (aj 2 cm (aa (mv 0) (aa (mc (.int 2)) ah))))) (cF (cT (dm dC (aK [("number",none)] (aV (mv 0)) (gN 0) bE (aj 1 bW (aa (mv 0) ah))))))) (aU (mc (.bl false))) bH)
 (au (gH (mv 0) (gT 2 (aw (gN 1) (aw (gN 2) cZ))))
 (aU (eJ (af jR (mv 2) (mc (.int 1))) (af bI (aj 2 aS (aa (mv 1) (aa (mv 2) ah))) (mc (.int 1)))))))
noncomputable def cM:List AV->S->R AV:=gh 3 jI
noncomputable def ji:Ms:=
 (au (dU (cF (cT (aj 2 cm (aa (mv 0) (aa (mc kS) ah))))) (aU (mc (.bl false))) bH)
 (au (gH (mv 0) (gT 9 (aw (gN 1) (aw (gN 2) (aw (gN 3) (aw (gN 4) (aw (gN 5) (aw (gN 6) (aw (gN 7) (aw (gN 8) (aw (gN 9) cZ)))))))))))
 (au (dU (iM (cF (cT (aj 1 fV (aa (mv 1) ah)))) (cF (cT (dm dC (aK [("coins",none)] (aV (aT (aa (mv 2) (aa (mv 3) (aa (mv 6) (aa (mv 7) ah)))))) (gN 0) bE (aj 1 cM (aa (mv 0) ah))))))) (aU (mc (.bl false))) bH)
 (aU (dm dC (aK [("coins",none)] (aV (aT (aa (mv 4) (aa (mv 5) (aa (mv 8) (aa (mv 9) ah)))))) (gN 0) bE (eJ (aj 1 bW (aa (mv 0) ah)) (af jR (mv 0) (mc (.int 0))))))))))
noncomputable def cD:List AV->S->R AV:=gh 10 ji
noncomputable def dA:Ms:=
 (au (dU (iM (cF (cT (cK ib (mv 0)))) (cF (cT (dm dC (aK [("row",none)] (aV (mv 0)) (gN 0) bE (aj 1 cD (aa (mv 0) ah))))))) (aU (mc (.bl false))) bH)
 (aU (dm dC (aK [("row",none),("later",none)] (jC (mv 0) (gW (mv 0) (oS (mc (.int 1))) oN)) (gT 2 (aw (gN 0) (aw (gN 1) cZ))) bE (af ee (af ai (mv 0) (mc (.int 0))) (af ai (mv 1) (mc (.int 0))))))))
noncomputable def bM:List AV->S->R AV:=gh 1 dA
noncomputable def iJ:Ms:=
 (au (fC 3 4 (aa (af ai (mv 0) (mc (.int 5))) (aa (af ai (mv 0) (mc (.int 6))) ah)))
 (au (gH (mv 1) (gT 9 (aw (gN 5) (aw (gN 6) (aw (gN 7) (aw (gN 8) (aw (gN 9) (aw (gN 10) (aw (gN 11) (aw (gN 12) (aw (gN 13) cZ)))))))))))
 (au (aO 2 (aj 2 bS (aa (aT (aa (af av (mv 8) (mv 9)) (aa (mc (.int 1)) ah))) (aa (gu (aj 1 cC (aa (aF (bz (aa (mv 3) (aa (mv 4) (aa (mv 6) ah))))) ah))) ah))))
 (au (dU (cB (af cY (gu (aj 1 cC (aa (aF (bz (aa (mv 10) (aa (mv 11) ah)))) ah))) (mv 2))) (aU (mc (.bl false))) bH)
 (au (dU (iM (cT (aj 2 b_ (aa (mv 7) (aa (mc c8) ah)))) (cT (aj 2 b_ (aa (mv 4) (aa (mv 7) ah))))) (aU (mc (.bl false))) bH)
 (au (dU (iM (cT (aj 2 b_ (aa (mv 11) (aa (mc c8) ah)))) (cF (cT (aj 2 b_ (aa (mv 10) (aa (mc tf) ah)))))) (aU (mc (.bl false))) bH)
 (aU (zI (af bI (mv 9) (mc (.int 0))) (b9 bI bI (mv 12) (mv 13) (mc (.int 0)))))))))))
noncomputable def bL:List AV->S->R AV:=gh 14 iJ
noncomputable def gj:Ms:=
 (au (dU (iM (cF (cT (gu (aj 1 bM (aa (mv 0) ah))))) (cF (cT (gu (aj 1 bM (aa (mv 1) ah)))))) (aU (mc (.bl false))) bH)
 (au (dU (xY (cB (af cY (aF (aK [("row",none)] (aV (mv 0)) (gN 0) bE (af ai (mv 0) (mc (.int 0))))) (aF (aK [("row",none)] (aV (mv 1)) (gN 0) bE (af ai (mv 0) (mc (.int 0)))))))) (aU (mc (.bl false))) bH)
 (aU (dm dC (aK [("row",none),("later",none)] (jC (mv 0) (mv 1)) (gT 2 (aw (gN 0) (aw (gN 1) cZ))) bE (aj 2 bL (aa (mv 0) (aa (mv 1) ah))))))))
noncomputable def bc:List AV->S->R AV:=gh 2 gj
noncomputable def oT:Ms:=
 (au (aO 2 (gu (aj 1 dG (aa (aF (bz (aa (af ai (mv 0) (mc (.int 5))) (aa (af ai (mv 0) (mc (.int 6))) (aa (af ai (mv 1) (mc (.int 1))) (aa (aT (aa (af fh (cK cn (af ai (mv 1) (mc (.int 3)))) (af ai (mv 1) (mc (.int 4)))) (aa (mc (.int 1)) ah))) ah)))))) ah))))
 (au (dU (iM (cB (af cY (gu (aj 1 dG (aa (aF (bz (aa (af ai (mv 1) (mc (.int 5))) (aa (af ai (mv 1) (mc (.int 6))) ah)))) ah))) (mv 2))) (iM (cB (af ee (af ai (af ai (mv 1) (mc (.int 2))) (mc (.int 0))) (mc (.int 0)))) (cB (af ee (af ai (af ai (mv 1) (mc (.int 6))) (mc (.int 0))) (mc (.int 0)))))) (aU (mc (.bl false))) bH)
 (au (dU (iM (cB (af jQ (af bf (af ai (af ai (mv 1) (mc (.int 2))) (mc (.int 0))) (af ai (af ai (mv 0) (mc (.int 6))) (mc (.int 1)))) (af bf (af ai (af ai (mv 0) (mc (.int 6))) (mc (.int 0))) (af ai (af ai (mv 1) (mc (.int 2))) (mc (.int 1)))))) (cB (af jR (af ai (af ai (mv 1) (mc (.int 5))) (mc (.int 0))) (af ai (af ai (mv 1) (mc (.int 5))) (mc (.int 1)))))) (aU (mc (.bl false))) bH)
 (aU (zI (af bI (af ai (mv 1) (mc (.int 4))) (mc (.int 0))) (af bI (af av (af ai (mv 1) (mc (.int 7))) (af ai (mv 1) (mc (.int 8)))) (mc (.int 0))))))))
noncomputable def je:List AV->S->R AV:=gh 3 oT
end Ro
namespace Mm
open PySem L2
def Cw:Key->PyData
 | .inl i=>.int i
 | .inr x=>.str x
def toP:Nat->S->AV->Option PyData
 | _,_,.aY=>some .none
 | _,_,.bl b=>some (.bool b)
 | _,_,.int b=>some (.int b)
 | _,_,.str b=>some (.str b)
 | n+1,s,.tup xs=>(xs.mapM (toP n s)).map .tuple
 | n+1,s,.ref i=>match s[i]? with
  | some (.lst xs)=>(xs.mapM (toP n s)).map .list
  | some (.dK kvs)=>((kvs.map (·.2)).mapM (toP n s)).map λ vs=>.dict ((kvs.map λ p=>Cw p.1).zip vs)
  | _=>none
 | _,_,_=>none
mutual
def u_:PyData->Bool
 | .list _=>true
 | .tuple xs=>oo xs
 | .dict kvs=>tK kvs
 | _=>false
def oo:List PyData->Bool
 | []=>false
 | x :: xs=>u_ x || oo xs
def tK:List (PyData × PyData)->Bool
 | []=>false
 | (_,v) :: r=>u_ v || tK r
end
section
variable {T:Tx}{XE:fU}{X:Cx}{pos:Pos}
def OT (h:Heap)(v:V)(d:PyData):Prop:=∀ u,RelV v u->∃ as,Reads h u d as/\(u_ d=false->sysModules∉as)
theorem gz {ρ:List Addr}{H:Hp}{h:Heap}{f:AV->Option PyData}(hf:∀ v d x,f v=some d->VR T ρ H v x->OT h x d):∀ {xs:List AV}{l:List PyData}{vs:List V}{us:List Value},xs.mapM f=some l->aR T ρ H xs vs->Vals vs us->∃ as,ReadsAll h us l as/\(oo l=false->sysModules∉as)
 | [],l,vs,us,e,k,r=>by
  rw[List.mapM_nil]at e
  cases e
  cases k.nil_inv
  cases r
  exact⟨[],.nil,λ _ z=>nomatch z⟩
 | a :: r',l,vs,us,e,k,r=>by
  obtain⟨b,q,e1,e2,rfl⟩:=sU e
  obtain⟨x,ys,rfl,k1,k2⟩:=k.cons_inv
  cases r with
  | cons r1 r2=>
   obtain⟨as,h1,h2⟩:=hf a b x e1 k1 _ r1
   obtain⟨bs,h3,h4⟩:=gz hf e2 k2 r2
   refine⟨as++bs,.cons h1 h3,λ z m=>?_⟩
   unfold oo at z
   obtain⟨z1,z2⟩:=Bool.or_eq_false_iff.mp z
   exact(List.mem_append.mp m).elim (h2 z1) (h4 z2)
where
 sU {α β:Type}{f:α->Option β}{a:α}{l:List α}{r:List β}(h:(a :: l).mapM f=some r):∃ b q,f a=some b/\l.mapM f=some q/\r=b :: q:=by
  rw[List.mapM_cons]at h
  cases e1:f a with
  | none=>rw[e1]at h;cases h
  | some b=>
   cases e2:l.mapM f with
   | none=>rw[e1,e2]at h;cases h
   | some q=>rw[e1,e2]at h;cases h;exact⟨b,q,rfl,rfl,rfl⟩
theorem pX {h:Heap}{prog:Program}{w:World}:∀ {es:List DictEntry}{vs:List (Key × Value)},PySem.Pairs (bQ prog w) es vs->ReadsAll h (es.map (·.key)) (vs.map λ p=>Cw p.1) []/\es.map (·.val)=vs.map (·.2)
 | _,_,.nil=>⟨.nil,rfl⟩
 | _,_,.cons (e:=e) (kv:=kv) hk hv hr=>by
  obtain⟨h1,h2⟩:=pX hr
  refine⟨?_,by simp only[List.map_cons,hv,h2]⟩
  obtain⟨k,v⟩:=kv
  have hk:n8 k e.key=true:=hk
  rcases bV hk with⟨i,t,rfl,q⟩|⟨x,t,rfl,q⟩
  ·rw[List.map_cons,q];exact .cons (as:=[]) (.int i t) h1
  ·rw[List.map_cons,q];exact .cons (as:=[]) (.str x t) h1
theorem qb:∀ {ks:List PyData}{vs:List PyData},ks.length=vs.length->tK (ks.zip vs)=oo vs
 | [],[],_=>by simp[tK,oo]
 | [],_ :: _,h=>by simp at h
 | _ :: _,[],h=>by simp at h
 | k :: ks,v :: vs,h=>by simp only[List.zip_cons_cons,tK,oo,qb (by simpa using h)]
theorem sT {α β:Type}{f:α->Option β}:∀ {l:List α}{r:List β},l.mapM f=some r->l.length=r.length
 | [],r,h=>by rw[List.mapM_nil]at h;cases h;rfl
 | a :: l,r,h=>by
  obtain⟨b,q,_,h2,rfl⟩:=nU h
  simp[sT h2]
theorem s_:∀ {κ:Type}{ks:List (κ × V)}{vs:List (κ × Value)},KV ks vs->ks.map (·.1)=vs.map (·.1)/\Vals (ks.map (·.2)) (vs.map (·.2))
 | _,_,_,.nil=>⟨rfl,.nil⟩
 | _,_,_,.cons r t=>by
  obtain⟨h1,h2⟩:=s_ t
  exact⟨by simp only[List.map_cons,r.1,h1],.cons r.2 h2⟩
theorem kF {ρ:List Addr}{H:Hp}{s:S}{pins:List (Addr × Obj)}{σ:St}{sh:Shared}(sr:SR T ρ s H)(I:Inv X pins σ H sh)(hK:X.K=T.K):∀ (n:Nat) (v:AV) (d:PyData) (x:V),toP n s v=some d->VR T ρ H v x->OT sh.heap x d
 | n,.aY,d,x,h,k=>by
  unfold toP at h;cases h;cases k.jr
  intro u r;cases r;exact⟨[],.none,λ _ z=>nomatch z⟩
 | n,.bl b,d,x,h,k=>by
  unfold toP at h;cases h;cases k.fH
  intro u r;cases r;exact⟨[],.bool b,λ _ z=>nomatch z⟩
 | n,.int b,d,x,h,k=>by
  unfold toP at h;cases h;cases k.int_inv
  intro u r;obtain⟨t,rfl⟩:=r;exact⟨[],.int b t,λ _ z=>nomatch z⟩
 | n,.str b,d,x,h,k=>by
  unfold toP at h;cases h;cases k.str_inv
  intro u r;obtain⟨t,rfl⟩:=r;exact⟨[],.str b t,λ _ z=>nomatch z⟩
 | 0,.tup xs,d,x,h,k=>by unfold toP at h;cases h
 | 0,.ref i,d,x,h,k=>by unfold toP at h;cases h
 | 0,.sq xs,d,x,h,k=>by unfold toP at h;cases h
 | n+1,.sq xs,d,x,h,k=>by unfold toP at h;cases h
 | n+1,.tup xs,d,x,h,k=>by
  unfold toP at h
  cases e:xs.mapM (toP n s) with
  | none=>rw[e]at h;cases h
  | some l=>
   rw[e]at h;cases h
   unfold VR at k
   obtain⟨a,vs,rfl,h1,h2⟩:=k
   intro u r
   cases (show u=Value.ref a from r)
   obtain⟨its,vr,⟨o,g1,g2,m,g3⟩,_⟩:=I.tuple (by rw[hK];exact h1)
   obtain⟨as,ra,hs⟩:=gz (λ v d x e k=>kF sr I hK n v d x e k) e h2 vr
   exact⟨as,.tuple g1 g2 g3 ra,λ z=>hs (by unfold u_ at z;exact z)⟩
 | n+1,.ref i,d,x,h,k=>by
  unfold toP at h
  split at h
  ·rename_i xs ei
   cases e:xs.mapM (toP n s) with
   | none=>rw[e]at h;cases h
   | some l=>
    rw[e]at h;cases h
    obtain⟨a,vs,rfl,_,h1,h2⟩:=sr.dN ei k
    intro u r
    cases (show u=Value.ref a from r)
    obtain⟨_,its,m,vr,g⟩:_/\∃ (its:List Value) (m:Nat),Vals vs its/\sh.heap.get? a=some { cls:=.type "list",data:=.seq its.toArray m }:=I.bN a _ h1
    obtain⟨as,ra,hs⟩:=gz (λ v d x e k=>kF sr I hK n v d x e k) e h2 vr
    exact⟨a :: as,.list g rfl rfl ra,λ z=>by unfold u_ at z;cases z⟩
  ·rename_i kvs ei
   cases e:(kvs.map (·.2)).mapM (toP n s) with
   | none=>rw[e]at h;cases h
   | some l=>
    rw[e]at h;cases h
    obtain⟨a,ks,rfl,_,h1,q1,q2⟩:=sr.yf ei k
    intro u r
    cases (show u=Value.ref a from r)
    obtain⟨_,Mj,vs,rel,o,es,ep,g1,g2,g3,_,g5,_⟩:=tV I.bN h1
    obtain⟨w1,w2⟩:=pX (h:=sh.heap) g5
    obtain⟨p1,p2⟩:=s_ rel
    have ll:(kvs.map λ p=>Cw p.1).length=l.length:=by rw[List.length_map,<-sT e,List.length_map]
    obtain⟨as,ra,hs⟩:=gz (λ v d x e k=>kF sr I hK n v d x e k) e q2 p2
    refine⟨a :: []++as,.dict g1 g2.1 g3 ?_ ?_,λ z m=>?_⟩
    ·rw[List.map_fst_zip (Nat.le_of_eq ll)]
     have:(kvs.map λ p=>Cw p.1)=vs.map λ p=>Cw p.1:=by
      have h1:(kvs.map λ p=>Cw p.1)=(kvs.map (·.1)).map Cw:=by rw[List.map_map];rfl
      have h2:(vs.map λ p=>Cw p.1)=(vs.map (·.1)).map Cw:=by rw[List.map_map];rfl
      rw[h1,h2,q1,p1]
     rw[this];exact w1
    ·rw[List.map_snd_zip (Nat.le_of_eq ll.symm),w2];exact ra
    ·unfold u_ at z
     rw[qb ll]at z
     rcases List.mem_cons.mp (show sysModules∈a :: as from m) with e|m
     ·exact absurd e.symm (beq_eq_false_iff_ne.mp Mj)
     ·exact hs z m
  ·cases h
def sg:PyData->Str
 | .str x=>x
 | d=>d.shown
structure KQ (d:PyData):Prop where
 sh:d.showable=true
 dl:d.hasDict=true->u_ d=false
 dp:d.depth<=30
 ln:(sg d).length<=sizeLine
noncomputable instance {d:PyData}:Decidable (KQ d):=Classical.propDecidable _
noncomputable def ia:List AV->S->R AV
 | [v],s=>need (toP 20 s v) λ d=>if KQ d then .ok (.str (sg d)) s else .bad
 | _,_=>.bad
theorem J5 {k:Nat}(hK:X.K=T.K)(hr:fK k X.A):cg X (.type "str") (Bs T XE ia):=by
 intro pins s σ H xs us Q I r ⟨ρ,args,st,sr,va,ho⟩
 unfold ia at ho
 split at ho
 ·rename_i v
  obtain⟨x,rfl,kx⟩:=va.fR
  obtain⟨d,e,ho⟩:=ho.aI
  obtain⟨hs,ho⟩:=ho.bK
  obtain⟨u,rfl,r1⟩:=vals1 r
  have fin:∀ h' t tk,(∀ b o,s.heap.get? b=some o->h'.get? b=some o)->EP X pins σ Q (.str (sg d) t) { s with heap:=h',toks:=tk }:=λ h' t tk hk=>⟨.str (sg d),H,I.kept hk,⟨_,rfl⟩,ho.aW sr hJ⟩
  obtain⟨as,rd,Mj⟩:=kF sr I hK 20 v d x e kx u r1
  have hu:=hr.units
  have big:∀ a,u=.ref a->(sg d=d.shown)->wpAny (model X.prog X.w) X.A (call (.type "str") [u]) (EP X pins σ Q) X.xe s:=by
   rintro a rfl ed
   refine str_of_reads rd hs.sh (λ hd=>Mj (hs.dl hd)) hr.gd (by have:=hs.dp;omega) (λ _ _ e=>e) (λ h' t tk hk=>?_) (by rw[<-ed];exact hs.ln)
   rw[<-ed];exact fin h' t tk hk
  cases rd with
  | none=>exact PySem.P.str_of_none (fin _ _ _ λ _ _ e=>e)
  | bool b=>exact PySem.P.str_of_bool (fin _ _ _ λ _ _ e=>e)
  | int i t=>
   have:i.natAbs.log2 < 1920:=by have:=hs.sh;simpa[PyData.showable]using this
   exact PySem.P.str_of_int this (fin _ _ _ λ _ _ e=>e)
  | str y t=>exact PySem.P.str_of_str (fin s.heap t s.toks λ _ _ e=>e)
  | list _ _ _ _=>exact big _ rfl rfl
  | tuple _ _ _ _=>exact big _ rfl rfl
  | dict _ _ _ _ _=>exact big _ rfl rfl
 ·exact ho.elim
end
end Mm
namespace L2
open PySem PySem.Spec PyProof.Rows
def Ez:V->List V->Hp->VK->Prop:=λ x vs H Q=>∃ (sep:Str)(l:Addr)(ss:List Str),x=.str sep/\vs=[.ref l]/\H l=some (.lst (ss.map V.str))/\PySem.Builtin.Str.tooLong (ss.toArray.foldl (·+·.length+sep.length) 0)=false/\Q (.str (Txt.join sep ss)) H
theorem zw {X:Cx}:DR X "str.join" Ez:=by
 intro pins s σ H x vs v us Q I rx rv h
 obtain⟨sep,l,ss,rfl,rfl,hH,hz,q⟩:=h
 obtain⟨tk,rfl⟩:=rx
 obtain⟨u,rfl,ru⟩:=rv.one
 cases (show u=Value.ref l from ru)
 obtain⟨z,its,n,r,hl,e⟩:=I.sV hH
 obtain⟨ps,e1,e2⟩:=kB r
 subst e1
 refine call_meets F.slot_str_join ((uz (T:="str") (x:=.str sep) I ⟨tk,rfl⟩ rfl).1) F.entry_str_join (F.args_str_join_2 _ _) (meets_str_join_list sep tk l ps (by rw[e2];exact hz)) ⟨⟨_,e,rfl,n,rfl⟩,?_⟩
 refine post_join ps ⟨joinFit_length (by rw[e2];exact hz),λ t' k=>?_⟩
 rw[e2]
 exact⟨.str _,H,I.tok _,⟨_,rfl⟩,q⟩
def Ey:V->List V->Hp->VK->Prop:=λ x vs H Q=>∃ d kvs,x=.ref d/\vs=[]/\H d=some (.dK kvs)/\∀ v,H v=none->Q (.ref v) (upd H v (.ext λ h=>PySem.W.KdlKeysView h v d))
theorem zv {X:Cx}:DR X "dict.keys" Ey:=by
 rintro pins s σ H x xs v us Q I rx rv ⟨d,kvs,rfl,rfl,hH,q⟩
 cases rx
 cases rv
 obtain⟨z,hd,vs,rel,dd⟩:=tV I.bN hH
 refine call_meetsIn PySem.F.slot_dict_keys dd.typeIs PySem.F.entry_dict_keys (PySem.F.args_dict_keys_1 _) (PySem.W.kdl_meets_keys (bQ X.prog X.w) d hd) ⟨⟨vs,dd⟩,?_⟩
 refine⟨.ref s.heap.objs.size,_,I.laid (a:=s.heap.objs.size) (o:=.ext λ h=>PySem.W.KdlKeysView h s.heap.objs.size d) (t':=s.toks) (λ _ _ q=>Heap.get?_push_of_some _ q) (Nat.le_refl _) ⟨⟨_,Heap.get?_push_size _ rfl,rfl,rfl⟩,⟨_,Heap.get?_push_size _ rfl⟩,λ h1 h2 ⟨o,e,r⟩ k=>⟨o,k o e,r⟩⟩,rfl,q _ (I.bN.fresh (Nat.le_refl _))⟩
def Ex:List V->Hp->VK->Prop:=λ xs H Q=>∃ (v d:Addr)(kvs:List (Key × V)) (ks:List Str),xs=[.ref v]/\H v=some (.ext λ h=>PySem.W.KdlKeysView h v d)/\H d=some (.dK kvs)/\kvs.map (·.1)=ks.map Sum.inr/\ks.length < 64/\∀ l,H l=none->Q (.ref l) (upd H l (.lst ((df ks).map V.str)))
theorem vj {X:Cx}(hc:X.calm=true):cg X (.builtin "sorted") Ex:=by
 rintro pins s σ H xs us Q I rv ⟨v,d,kvs,ks,rfl,hv,hH,hk,MS,q⟩
 obtain⟨u,rfl,ru⟩:=rv.one
 cases (show u=Value.ref v from ru)
 obtain⟨z,hd,vs,rel,dd⟩:=tV I.bN hH
 obtain⟨ep,DC⟩:=dd.dictAt
 have Jm:PySem.W.KdlKeysView s.heap v d:=(I.bN v _ hv).1
 have Mx:vs.length=ks.length:=by
  have h1:=congrArg List.length hk
  have h2:=rel.length
  rw[List.length_map,List.length_map]at h1
  omega
 have hh:=I.ok.hd hc
 refine PySem.Calls.call_function_entry kind_sorted plain_sorted entry_sorted (args_sorted1 _) ?_
 unfold Builtin.«sorted»
 refine wpAny_bind (m:=checkCount "sorted" 1 1 _) (wpAny_pure ?_)
 refine wpAny_bind (PySem.W.kdu_collect (A:=X.A.in1) (PySem.W.kdl_keys (knd:=bQ X.prog X.w) (r:=v) (d:=d) (kvs:=vs) (ep:=ep)) hh ⟨Jm,DC⟩ (by rw[<-rel.length];exact z) λ h' tk acc Gq JJ=>?_)
 have hl:acc.toList.length=ks.length:=by rw[Array.length_toList,JJ.1,Mx]
 have hS:StrsAre acc.toList ks:=ny hl λ j hj=>by
  have Oi:j < acc.size:=by rw[<-Array.length_toList,hl];exact hj
  obtain⟨k,x,e1,e2⟩:=JJ.2 j acc[j] (by rw[Array.getElem?_eq_getElem Oi])
  have ek:k=Sum.inr ks[j]:=Cu rel hk e1 hj
  subst ek
  obtain⟨t,et⟩:=Value.isStrOf_shape (show Value.isStrOf ks[j] acc[j]=true from e2)
  exact⟨t,by rw[Array.getElem?_toList,Array.getElem?_eq_getElem Oi,et]⟩
 refine wpAny_bind (wpAny_newList ?_ (by rw[hl];exact Nat.le_of_lt (a4 (by omega))))
 have hoL:(h'.push (seqObj "list" acc.toList.toArray 0)).get? h'.objs.size=some (seqObj "list" acc.toList.toArray 0):=Heap.get?_push_size _ rfl
 refine wpAny_bind (wpAny_holding (wpAny_call_entry slot_list_sort ⟨_,hoL,rfl⟩ entry_list_sort (list_sort_treeK strKind_oneLt hoL hS.keysOf (λ v₁ v₂ rest e=>keyKind_strs (by rw[<-e];exact hS)) (by rw[hl];exact MS) λ eK a1 a2=>⟨_,rfl,?_⟩) (args_list_sort _)))
 obtain⟨Lo,h1,h2,h3⟩:=sorted_out_str hS a1 a2
 have e1:Lo=df ks:=jN h2 (hW h3)
 subst e1
 have hold:∀ b u,s.heap.get? b=some u->b≠h'.objs.size:=λ b u e=>Nat.ne_of_lt (Heap.lt_size (Gq b u e))
 have MQ:H h'.objs.size=none:=by
  cases q0:H h'.objs.size with
  | none=>rfl
  | some o=>obtain⟨u,hu⟩:=(I.bN _ o q0).nr;exact absurd rfl (hold _ u hu)
 obtain⟨ec,MI⟩:=sortedHeap_at hoL (out:=(arrOf eK).map (·.2))
 refine wpAny_pure ⟨_,rfl,.ref h'.objs.size,upd H h'.objs.size (.lst ((df ks).map V.str)),?_,rfl,q _ MQ⟩
 refine I.grown (λ b u e=>?_) (λ b u e=>aD (hold b u e)) λ b o e z=>?_
 ·rw[sortedHeap_old (hold b u e) (by rw[Heap.size_push];exact Nat.lt_succ_of_lt (Heap.lt_size (Gq b u e)))]
  exact Heap.get?_push_of_some _ (Gq b u e)
 ·by_cases hb:b=h'.objs.size
  ·subst hb
   rw[aQ]at z
   cases z
   refine⟨by rw[List.length_map,h2.length_eq];exact Nat.le_of_lt (a4 (by omega)),_,ec,fA h1,?_⟩
   rw[MI]
  ·rw[aD hb]at z
   obtain⟨u,hu⟩:=(I.bN b o z).nr
   rw[e]at hu;cases hu
end L2
namespace Mm
open PySem L2
section
variable {T:Tx}{XE:fU}{X:Cx}{pos:Pos}
def lI:AV->List AV->S->R AV
 | .str sep,[.ref i],s=>need (aq s i) λ xs=>need (qy xs) λ ss=>if PySem.Builtin.Str.tooLong (ss.toArray.foldl (·+·.length+sep.length) 0)=false then .ok (.str (Txt.join sep ss)) s else .bad
 | _,_,_=>.bad
theorem J0:DR X "str.join" (Kl T XE lI):=by
 intro pins s σ H x xs v us Q I rx rv ⟨ρ,a,vs,st,sr,va,vb,ho⟩
 unfold lI at ho
 split at ho
 ·obtain⟨ys,e,ho⟩:=ho.aI
  obtain⟨ss,e2,ho⟩:=ho.aI
  obtain⟨hl,ho⟩:=ho.bK
  cases va.str_inv
  obtain⟨y,rfl,k2⟩:=vb.fR
  obtain⟨p,ws,rfl,ea,h1,k⟩:=sr.dN (ay e) k2
  rw[nq e2]at k
  have ew:ws=ss.map V.str:=vC k
  subst ew
  exact zw pins s σ H _ _ v us Q I rx rv ⟨_,p,ss,rfl,rfl,h1,hl,ho.aW sr hJ⟩
 ·exact ho.elim
where
 vC {ρ:List Addr}{H:Hp}:∀ {ss:List Str}{ws:List V},aR T ρ H (ss.map AV.str) ws->ws=ss.map V.str
  | [],ws,h=>h.nil_inv
  | s :: r,ws,h=>by
   obtain⟨x,ys,rfl,k1,k2⟩:=h.cons_inv
   cases k1.str_inv
   rw[vC k2];rfl
def rj (m:Ev):dR:=λ env s=>(m env s).bind λ v s1=>match v with
 | .ref i=>need (oG s1 i) λ kvs=>need (gx kvs) λ ks=>if ks.length < 64 then .ok ((df ks).map .str) s1 else .bad
 | _=>.bad
theorem zB {e:Expr}{p ap cp:Pos}{m:Ev}(hm:X.mg "sorted"=none)(h:PE X e (tE T XE m)) (KG:X.calm=true:=by rfl)(hg:Gl X "sorted":=by rfl)
  (kY:attributeBase e "keys" X.env (eval e X.env)=eval e X.env:=by rfl) (kX:(ap.endLine == cp.line)=true:=by rfl)
  (he:starEach [.Call (.Attribute e "keys" ap) [] [] cp] X.env=(false,eval (.Call (.Attribute e "keys" ap) [] [] cp) X.env) :: starEach [] X.env:=by rfl) (i':(backTo pos (starEach [] X.env)).any (·.1)=false:=by rfl) :
  PE X (.Call (.Name "sorted" p) [.Call (.Attribute e "keys" ap) [] [] cp] [] pos) (tL T XE (rj m)):=
 PE.imp (gY (vj KG) hg hm PyProof.Rows.boot_sorted (cQ (E1 PySem.F.plainAttrs_dict PySem.F.slot_dict_keys PySem.F.type_dict_keys zv h kY kX) gK he) (by decide) (by decide) he i') λ σ H Q ⟨ρ,env,s,hs,he,ho⟩=>
  step hs he ho λ v s1 ρ1 H1 x _ u1 bo cS a6 aP=>by
   cases v with
   | ref i=>
    obtain⟨kvs,e1,aP⟩:=aP.aI
    obtain⟨ks,e2,aP⟩:=aP.aI
    obtain⟨hl,aP⟩:=aP.bK
    obtain⟨a,qs,rfl,ea,h1,q1,q2⟩:=bo.yf (m9 e1) a6
    refine⟨.inr (.inr (.inl ⟨rfl,.inl ⟨qs,h1⟩⟩)),a,qs,rfl,rfl,h1,λ v hv=>?_⟩
    refine⟨v,a,qs,ks,rfl,aQ,by rw[aD (bq h1 hv)];exact h1,by rw[<-q1];exact mi e2,hl,λ l Hr=>?_⟩
    have Mx:l≠v:=λ z=>by rw[z,aQ]at Hr;cases Hr
    have Jw:H1 l=none:=by rw[aD Mx]at Hr;exact Hr
    let H':=upd (upd H1 v (.ext λ h=>PySem.W.KdlKeysView h v a)) l (.lst ((df ks).map V.str))
    have old:∀ b o,H1 b=some o->H' b=some o:=λ b o e=>by
     show upd _ _ _ b=_
     rw[aD (bq e Jw),aD (bq e hv)];exact e
    have up:Up ρ1 H1 ρ1 H':=⟨⟨List.prefix_rfl,λ b xs e=>old b _ e,λ b o u e=>old b _ e⟩,λ b o e n=>⟨old b o e,n⟩,λ b e=>by
     by_cases Ov:b=l
     ·rw[Ov];exact Jw
     ·by_cases Ou:b=v
      ·rw[Ou];exact hv
      ·have e:upd (upd H1 v _) l _ b=none:=e
       rw[aD Ov,aD Ou]at e;exact e⟩
    have hV:SR T ρ1 s1 H':=bo.up up.toGr λ b hb=>by
     obtain⟨u,hu⟩:=bo.in hb
     rw[hu];exact old b u hu
    exact aP ρ1 H' (.ref l) up hV ⟨l,_,rfl,Jw,bo.out Jw,aQ,aR.map (λ _=>hJ) _⟩
   | _=>exact aP.elim
def iY (m k:Ev):Ev:=λ env s=>(m env s).bind λ v s1=>(k env s1).bind λ w s2=>match v,w with
 | .ref i,.int (.negSucc 0)=>need (aq s2 i) λ xs=>.ok (.ref s2.length) (s2++[.lst xs.reverse])
 | _,_=>.bad
theorem Ck {e st:Expr}{p2:Pos}{m k:Ev}(he:PE X e (tE T XE m)) (hk:PE X st (tE T XE k)):PE X (.Subscript e (.Slice none none (some st) p2) pos) (tE T XE (iY m k)):=
 PE.imp (ET he hk) λ σ H Q ⟨ρ,env,s,hs,he,ho⟩=>
  step hs he ho λ v s1 ρ1 H1 x _ u1 bo cS a6 aP=>step bo cS aP λ w s2 ρ2 H2 y _ u2 hV mJ j' c9=>by
   have a6:VR T ρ2 H2 v x:=VR.up u2 a6
   have j':VR T ρ2 H2 w y:=j'
   split at c9
   ·cases j'.int_inv
    obtain⟨xs,e,c9⟩:=c9.aI
    obtain⟨a,vs,rfl,_,h1,k1⟩:=hV.dN (ay e) a6
    exact⟨rfl,a,vs,rfl,fJ.of h1,λ p hp=>c9.alloc hV hp (OR.lst aQ (aR.gr ((hV.dX hp).add hp).toGr k1.reverse))⟩
   ·exact c9.elim
def lH:AV->AV->S->R AV
 | .ref i,.int k,s=>need (aq s i) λ xs=>if (-1000<=k/\k<=1000)/\xs.length<=1000 then .ok (.ref s.length) (s++[.lst (List.replicate k.toNat xs).flatten]) else .bad
 | _,_,_=>.bad
theorem aR.rep {ρ:List Addr}{H:Hp}{l:List AV}{xs:List V}(h:aR T ρ H l xs):∀ n:Nat,aR T ρ H (List.replicate n l).flatten (List.replicate n xs).flatten
 | 0=>by simp;exact .nil
 | n+1=>by rw[List.replicate_succ,List.flatten_cons,List.replicate_succ,List.flatten_cons];exact h.append (aR.rep h n)
theorem IF:e_ X (binaryOp .Mult) (lF T XE lH):=by
 intro pins s σ H x y v u Q I rx ry ⟨ρ,a,b,st,sr,va,vb,ho⟩
 cases a<;>cases b<;>try exact ho.elim
 obtain⟨xs,e,ho⟩:=ho.aI
 obtain⟨⟨⟨h1,h2⟩,h3⟩,ho⟩:=ho.bK
 obtain⟨p,vs,rfl,_,hH,k⟩:=sr.dN (ay e) va
 cases vb.int_inv
 have hl:=k.length
 refine E_ pins s σ H _ _ v u Q I rx ry ⟨p,_,vs,rfl,rfl,hH,by omega,by omega,?_,λ q hq=>ho.alloc sr hq (OR.lst aQ (aR.gr ((sr.dX hq).add hq).toGr (aR.rep k _)))⟩
 refine Nat.le_trans (Nat.mul_le_mul (show vs.length<=1000 by omega) (show _<=1000 by omega)) ?_
 rw[sizeLine_eq];decide
end
end Mm
namespace L2
open PySem PySem.Spec PyProof.Rows
def HG (i j k:Nat)(ta:TA):TS:=λ D σ H=>ta σ H λ vs H1=>∃ v w z,vs=[v,w,z]/\D.nx (((σ.set i (some v)).set j (some w)).set k (some z)) H1
theorem Bz {X:Cx}{pos:Pos}{i j k:Nat}{x y z:Str}{a b c:Expr}{ta:TA}{px py pz pt:Pos}{kt k2 uL} (hc:X.calm=true)(hN:X.N.Nodup)(hi:X.N[i]? = some x)(hj:X.N[j]? = some y)(hk:X.N[k]? = some z)(tI:i≠j)(Jx:i≠k)(MC:j≠k)
  (hx:X.env.scope.names.lookup x=some .local) (hy:X.env.scope.names.lookup y=some .local) (hz:X.env.scope.names.lookup z=some .local) (ha:PA X [a,b,c] ta)
  (hw:swappedStores [.Tuple [.Name x px,.Name y py,.Name z pz] kt pt] (.Tuple [a,b,c] k2 uL) X.env=pure (some [x,y,z]))
  (hs:swapsWithSole [.Tuple [.Name x px,.Name y py,.Name z pz] kt pt] (.Tuple [a,b,c] k2 uL) pos.line X.env=pure false) :
  PS X (.Assign [.Tuple [.Name x px,.Name y py,.Name z pz] kt pt] (.Tuple [a,b,c] k2 uL) pos) (HG i j k ta):=by
 intro pins s σ H D I h
 rw[exec_Assign_arm]
 refine wpAny_bind (wpAny_standAt ?_)
 rw[hs]
 refine wpAny_bind (wpAny_pure ?_)
 rw[if_neg (by decide)]
 refine wpAny_bind (Tuple_ (bO (ha _ pins s σ H _ I h) λ us s1 ⟨vs,H1,I1,r1,q1⟩=>?_))
 obtain⟨v,w,q,e1,q1⟩:=q1
 subst e1
 obtain⟨u1,u2,u3,rfl,rv,sE,rz⟩:∃ u1 u2 u3,us=[u1,u2,u3]/\RelV v u1/\RelV w u2/\RelV q u3:=by
  cases r1 with
  | cons p q=>
   cases q with
   | cons p' q'=>
    cases q' with
    | cons Pw Pr=>
     cases Pr
     exact⟨_,_,_,rfl,p,p',Pw⟩
 refine wpAny_newObj_type ?_ (by show 3<=sizeLine;decide)
 have I2:Inv X pins σ H1 { s1 with heap:=s1.heap.push { cls:=.type "tuple",data:=.seq [u1,u2,u3].toArray } }:=I1.kept (t':=s1.toks) λ b o e=>Heap.get?_push_of_some _ e
 rw[hw]
 refine wpAny_bind (wpAny_pure ?_)
 show wpAny (model X.prog X.w) X.A (do rule "assign.swapped-stores";let items <-unpackItems (.ref s1.heap.objs.size) 3 none;assignInOrder [λ v=>bindName X.env z v,λ v=>bindName X.env y v,λ v=>bindName X.env x v] items.reverse;pure Flow.next) _ _ _
 refine wpAny_bind (wpAny_rule (wpAny_bind (unpackItems_tuple (items:=#[u1,u2,u3]) (I.ok.hd hc) (IsTup.new s1.heap _) λ h' Ab=>?_)))
 have I3:=I2.kept (h':=h') (t':=s1.toks) λ b o e=>Ab b o (Nat.ne_of_lt (Heap.lt_size e)) e
 show wpAny _ _ (assignInOrder [λ v=>bindName X.env z v,λ v=>bindName X.env y v,λ v=>bindName X.env x v] [u3,u2,u1] >>= λ _=>pure Flow.next) _ _ _
 refine wpAny_bind (assignInOrder_cons (wpAny_bindName (fZ I3 hN hk (.inl hz) rz (λ s2 I4=>?_) (.inr hz))))
 refine assignInOrder_cons (wpAny_bindName (fZ I4 hN hj (.inl hy) sE (λ s3 I5=>?_) (.inr hy)))
 refine assignInOrder_cons (wpAny_bindName (fZ I5 hN hi (.inl hx) rv (λ s4 I6=>assignInOrder_nil (wpAny_pure ?_)) (.inr hx)))
 rw[List.set_comm _ _ (Ne.symm tI),List.set_comm _ _ (Ne.symm Jx),List.set_comm _ _ (Ne.symm MC)]at I6
 exact⟨_,H1,I6,q1⟩
end L2
namespace Mm
open PySem L2
section
variable {T:Tx}{XE:fU}{X:Cx}{pos:Pos}
def pI (i j k:Nat)(r:dR):Ms:=λ env s=>(r env s).dw λ vs s1=>match vs with
 | [v,w,z]=>.nx (((env.set i (some v)).set j (some w)).set k (some z)) s1
 | _=>.bad
theorem B' {i j k:Nat}{x y z:Str}{a b c:Expr}{r:dR}{px py pz pt:Pos}{kt k2:Nat}{uL:Pos}(hc:X.calm=true)(hN:X.N.Nodup)(ha:PA X [a,b,c] (tP T XE r)) (hi:X.N[i]? = some x:=by rfl)(hj:X.N[j]? = some y:=by rfl)(hk:X.N[k]? = some z:=by rfl)(tI:i≠j:=by decide)(Jx:i≠k:=by decide)(MC:j≠k:=by decide)
  (hx:X.env.scope.names.lookup x=some .local:=by rfl) (hy:X.env.scope.names.lookup y=some .local:=by rfl) (hz:X.env.scope.names.lookup z=some .local:=by rfl)
  (hw:swappedStores [.Tuple [.Name x px,.Name y py,.Name z pz] kt pt] (.Tuple [a,b,c] k2 uL) X.env=pure (some [x,y,z]):=by rfl)
  (hs:swapsWithSole [.Tuple [.Name x px,.Name y py,.Name z pz] kt pt] (.Tuple [a,b,c] k2 uL) pos.line X.env=pure false:=by rfl) :
  PS X (.Assign [.Tuple [.Name x px,.Name y py,.Name z pz] kt pt] (.Tuple [a,b,c] k2 uL) pos) (tS T XE (pI i j k r)):=
 PS.imp (Bz hc hN hi hj hk tI Jx MC hx hy hz ha hw hs) λ D σ H ⟨ρ,env,s,hs,he,ho⟩=>gy hs he ho λ v s1 ρ1 H1 x _ u1 bo cS a6 aP=>by
  have a6:aR T ρ1 H1 v x:=a6
  match v,a6,aP with
  | [v,w,z],a6,aP=>
   obtain⟨x1,ys,rfl,k1,k2⟩:=a6.cons_inv
   obtain⟨x2,ys,rfl,k4,k3⟩:=k2.cons_inv
   obtain⟨x3,ys,rfl,k6,k5⟩:=k3.cons_inv
   cases k5.nil_inv
   exact⟨x1,x2,x3,rfl,aP ρ1 H1 _ .refl bo (((cS.set k1).set k4).set k6)⟩
  | [],_,aP=>exact aP.elim
  | [_],_,aP=>exact aP.elim
  | [_,_],_,aP=>exact aP.elim
  | _ :: _ :: _ :: _ :: _,_,aP=>exact aP.elim
end
end Mm
namespace Ro
open PySem L2 Mm
def DE (env:En):Nat:=match (env[(5:Nat)]?:Option (Option AV)) with
 | some (some (.int i))=>i.natAbs+1
 | _=>0
noncomputable def iF:Ms:=
 (au (fC 2 3 (aa (af av (af bf (af ai (mv 0) (mc (.int 0))) (af ai (mv 1) (mc (.int 1)))) (af bf (af ai (mv 1) (mc (.int 0))) (af ai (mv 0) (mc (.int 1))))) (aa (af bf (af ai (mv 0) (mc (.int 1))) (af ai (mv 1) (mc (.int 1)))) ah)))
 (au (fC 4 5 (aa (gp kI (aa (mv 2) ah)) (aa (mv 3) ah)))
 (au (xr (λ env _=>DE env) (cB (af jQ (mv 5) (mc (.int 0)))) (fC 4 5 (aa (mv 5) (aa (af cR (mv 4) (mv 5)) ah))))
 (aU (aT (aa (af di (mv 2) (mv 4)) (aa (af di (mv 3) (mv 4)) ah)))))))
noncomputable def ak:List AV->S->R AV:=gh 6 iF
noncomputable def jk:Ms:=
 (aU (aj 2 ak (aa (aT (aa (af bf (af ai (mv 0) (mc (.int 0))) (mv 1)) (aa (af bf (af ai (mv 0) (mc (.int 1))) (mv 2)) ah))) (aa (aT (aa (mc (.int 0)) (aa (mc (.int 1)) ah))) ah))))
noncomputable def c5:List AV->S->R AV:=gh 3 jk
noncomputable def eF:Ms:=
 (au (aO 3 (af av (mc (.int 1)) (aj 2 ar (aa (mv 0) (aa (CK (af ai (aF (bz (aa (mc (.int 1)) (aa (mc (.int 60)) (aa (af pL (mc (.int 10)) (mc (.int 6))) ah))))) (aj 2 ar (aa (mv 0) (aa (mc (.int 3)) ah))))) ah)))))
 (au (aO 4 (aj 2 ar (aa (mv 0) (aa (af bf (af fh (mv 2) (mv 1)) (mv 3)) ah))))
 (aU (aj 2 ak (aa (aT (aa (mv 1) (aa (mc (.int 1)) ah))) (aa (aT (aa (mv 4) (aa (mv 3) ah))) ah))))))
noncomputable def aM:List AV->S->R AV:=gh 5 eF
noncomputable def mx:Ms:=
 (aU (af ee (af bf (af ai (mv 0) (mc (.int 0))) (af ai (mv 1) (mc (.int 1)))) (af bf (af ai (mv 1) (mc (.int 0))) (af ai (mv 0) (mc (.int 1))))))
noncomputable def cH:List AV->S->R AV:=gh 2 mx
noncomputable def jm:Ms:=
 (au (aO 2 (CK (af ai (aF (bz (aa (mc (.int 2)) (aa (mc (.int 50)) (aa (af pL (mc (.int 10)) (mc (.int 9))) ah))))) (aj 2 ar (aa (mv 0) (aa (mc (.int 3)) ah))))))
 (au (fC 11 12 (aa (aj 3 aM (aa (mv 0) (aa (cK cn (mv 2)) (aa (mv 2) ah)))) (aa (aj 3 aM (aa (mv 0) (aa (mc (.int 0)) (aa (mv 2) ah)))) ah)))
 (au (aO 3 (aF (aK [("_law_k",none),("_law_state",some 0),("_law_size",some 2)] (nA (aa (mc (.int 8)) ah)) (gN 0) bE (af bf (aj 2 ar (aa (mv 1) (aa (mc (.int 3)) ah))) (aj 2 ar (aa (mv 1) (aa (mv 2) ah)))))))
 (au (aO 4 (aT (aa (mv 1) (aa (aj 3 aM (aa (mv 0) (aa (cK cn (mv 2)) (aa (mv 2) ah)))) (aa (aj 3 aM (aa (mv 0) (aa (mc (.int 0)) (aa (mv 2) ah)))) (aa (af ai (mv 3) (mc (.int 0))) (aa (af ai (mv 3) (mc (.int 1))) (aa (mv 11) (aa (mv 12) ah)))))))))
 (au (fC 13 14 (aa (aj 3 aM (aa (mv 0) (aa (cK cn (mv 2)) (aa (mv 2) ah)))) (aa (aj 3 aM (aa (mv 0) (aa (mc (.int 0)) (aa (mv 2) ah)))) ah)))
 (au (aO 5 (aj 3 c5 (aa (mv 12) (aa (aj 2 ar (aa (mv 0) (aa (mc (.int 8)) ah))) (aa (mc (.int 7)) ah)))))
 (au (aO 6 (aj 2 ak (aa (aj 2 ak (aa (aj 2 ak (aa (mv 11) (aa (mv 12) ah))) (aa (mv 13) ah))) (aa (aT (aa (cK cn (af ai (mv 14) (mc (.int 0)))) (aa (af ai (mv 14) (mc (.int 1))) ah))) ah))))
 (au (aO 7 (gp sM (aa (mc (.int 0)) (aa (af di (af ai (mv 6) (mc (.int 0))) (af ai (mv 6) (mc (.int 1)))) ah))))
 (au (aO 8 (CK (af ai (aF (bz (aa (mc (.int 0)) (aa (mv 7) (aa (aj 2 ar (aa (mv 0) (aa (af av (mv 7) (mc (.int 1))) ah))) ah))))) (aj 2 ar (aa (mv 0) (aa (mc (.int 3)) ah))))))
 (au (aO 9 (yl (cB (af bI (mv 8) (mv 7))) (aF (bz (aa (af ai (mv 3) (mc (.int 4))) (aa (af ai (mv 3) (mc (.int 5))) ah)))) (aF (bz (aa (mc (.int 0)) (aa (mc (.int 0)) ah))))))
 (au (aO 10 (aT (aa (mv 1) (aa (mv 13) (aa (mv 5) (aa (mv 8) (aa (af fh (mv 7) (mv 8)) (aa (aj 2 ak (aa (mv 6) (aa (aT (aa (cK cn (mv 7)) (aa (mc (.int 1)) ah))) ah))) (aa (mv 14) ah)))))))))
 (aU (aT (aa (af av (mv 4) (aT (aa (af ai (mv 3) (mc (.int 2))) (aa (af ai (mv 3) (mc (.int 3))) ah)))) (aa (af av (mv 10) (aT (aa (af ai (mv 9) (mc (.int 0))) (aa (af ai (mv 9) (mc (.int 1))) ah)))) ah)))))))))))))))
noncomputable def dP:List AV->S->R AV:=gh 15 jm
noncomputable def gm:Ms:=
 (au (aO 2 (mc (.str "abcdefghijklmnopqrstuvwxyz")))
 (au (aO 3 L1)
 (au (lD (nA (aa (mv 1) ah)) (gN 4) (au (aO 5 (CK (nV "str" lI (mc (.str "")) (aa (aF (aK [("_law_turn",none),("_law_letters",some 2),("_law_state",some 0)] (nA (aa (af av (mc (.int 1)) (aj 2 ar (aa (mv 0) (aa (mc (.int 7)) ah)))) ah)) (gN 0) bE (af ai (mv 1) (aj 2 ar (aa (mv 2) (aa (mc (.int 26)) ah)))))) ah))))
    (nF (mv 3) (yl (cB (af nM (mv 5) (mv 3))) (mv 5) (af av (mv 5) (af ai (mv 2) (mv 4)))) (mc (.bl true)))))
 (aU (aF (rj (mv 3)))))))
noncomputable def cE:List AV->S->R AV:=gh 6 gm
noncomputable def fv:Ms:=
 (au (dU (iM (cF (cT (cK (bU "tuple") (mv 0)))) (cB (af cY (gp dq (aa (mv 0) ah)) (mc (.int 2))))) (aU (mc (.bl false))) bH)
 (au (dU (cF (cT (dm dC (aK [("_law_one",none)] (aV (mv 0)) (gN 0) bE (eJ (cK (bU "int") (mv 0)) (cK jD (cK (bU "bool") (mv 0)))))))) (aU (mc (.bl false))) bH)
 (aU (eJ (af jQ (af ai (mv 0) (mc (.int 1))) (mc (.int 0))) (af bI (aj 2 ak (aa (mv 0) (aa (aT (aa (mc (.int 0)) (aa (mc (.int 1)) ah))) ah))) (mv 0))))))
noncomputable def bj:List AV->S->R AV:=gh 1 fv
noncomputable def fM:Ms:=
 (au (dU (iM (cF (cT (cK (bU "tuple") (mv 0)))) (iM (cB (af cY (gp dq (aa (mv 0) ah)) (mc (.int 9)))) (cF (cT (cK (bU "str") (af ai (mv 0) (mc (.int 0)))))))) (aU (mc (.bl false))) bH)
 (au (dU (iM (cF (cB (b9 ee ee (mc (.int 0)) (gp dq (aa (af ai (mv 0) (mc (.int 0))) ah)) (mc (.int 9))))) (cF (cT (dm dC (aK [("_law_sign",none)] (sx (af ai (mv 0) (mc (.int 0)))) (gN 0) bE (af pM (mv 0) (mc (.str "abcdefghijklmnopqrstuvwxyz")))))))) (aU (mc (.bl false))) bH)
 (au (dU (cF (cT (dm dC (aK [("_law_k",none),("_law_thing",some 0)] (aV (aT (aa (mc (.int 1)) (aa (mc (.int 2)) (aa (mc (.int 5)) (aa (mc (.int 6)) ah)))))) (gN 0) bE (aj 1 bj (aa (af ai (mv 1) (mv 0)) ah)))))) (aU (mc (.bl false))) bH)
 (aU (dm dC (aK [("_law_k",none),("_law_thing",some 0)] (aV (aT (aa (mc (.int 3)) (aa (mc (.int 4)) (aa (mc (.int 7)) (aa (mc (.int 8)) ah)))))) (gN 0) bE (eJ (cK (bU "int") (af ai (mv 1) (mv 0))) (eJ (cK jD (cK (bU "bool") (af ai (mv 1) (mv 0)))) (af jR (af ai (mv 1) (mv 0)) (mc (.int 0)))))))))))
noncomputable def aX:List AV->S->R AV:=gh 1 fM
noncomputable def hG:Ms:=
 (au (aO 2 (aj 2 ak (aa (af ai (mv 1) (mc (.int 5))) (aa (af ai (mv 1) (mc (.int 6))) ah))))
 (au (aO 3 (aj 2 ak (aa (aj 2 ak (aa (aj 2 ak (aa (af ai (mv 0) (mc (.int 5))) (aa (af ai (mv 0) (mc (.int 6))) ah))) (aa (af ai (mv 1) (mc (.int 1))) ah))) (aa (aT (aa (af fh (cK cn (af ai (mv 1) (mc (.int 3)))) (af ai (mv 1) (mc (.int 4)))) (aa (mc (.int 1)) ah))) ah))))
 (au (dU (iM (cB (af cY (mv 2) (mv 3))) (iM (cB (af ee (af ai (af ai (mv 1) (mc (.int 2))) (mc (.int 0))) (mc (.int 0)))) (cB (af ee (af ai (af ai (mv 1) (mc (.int 6))) (mc (.int 0))) (mc (.int 0)))))) (aU (mc (.bl false))) bH)
 (au (dU (iM (cT (aj 2 cH (aa (af ai (mv 0) (mc (.int 6))) (aa (af ai (mv 1) (mc (.int 2))) ah)))) (cF (cT (aj 2 cH (aa (af ai (mv 1) (mc (.int 5))) (aa (aT (aa (mc (.int 1)) (aa (mc (.int 1)) ah))) ah)))))) (aU (mc (.bl false))) bH)
 (aU (zI (af bI (af ai (mv 1) (mc (.int 4))) (mc (.int 0))) (eJ (af bI (af ai (mv 1) (mc (.int 7))) (mc (.int 0))) (af bI (af ai (mv 1) (mc (.int 8))) (mc (.int 0))))))))))
noncomputable def bB:List AV->S->R AV:=gh 4 hG
noncomputable def b7:Ms:=
 (au (lD (aV (aT (aa (mv 0) (aa (mv 1) ah)))) (gN 2) (dU (iM (cF (cT (cK ib (mv 2)))) (cF (cT (dm dC (aK [("_law_thing",none)] (aV (mv 2)) (gN 0) bE (aj 1 aX (aa (mv 0) ah))))))) (aU (mc (.bl false))) bH))
 (au (aO 3 (aF (aK [("_law_thing",none)] (aV (mv 0)) (gN 0) bE (af ai (mv 0) (mc (.int 0))))))
 (au (dU (iM (xY (cB (af cY (mv 3) (aF (aK [("_law_thing",none)] (aV (mv 1)) (gN 0) bE (af ai (mv 0) (mc (.int 0)))))))) (xY (cB (af cY (mv 3) (aF (oA (mv 3))))))) (aU (mc (.bl false))) bH)
 (aU (dm dC (aK [("_law_first",none),("_law_second",none)] (jC (mv 0) (mv 1)) (gT 2 (aw (gN 0) (aw (gN 1) cZ))) bE (aj 2 bB (aa (mv 0) (aa (mv 1) ah)))))))))
noncomputable def br:List AV->S->R AV:=gh 4 b7
noncomputable def eS:Ms:=
 (au (pI 7 8 9 (aa (aj 2 ar (aa (mv 0) (aa (mc (.int 9)) ah))) (aa (aj 2 ar (aa (mv 0) (aa (gp dq (aa (mv 1) ah)) ah))) (aa (af ai (af ai (mv 1) (cK cn (mc (.int 1)))) (mc (.int 0))) ah))))
 (au (fC 10 11 (aa (af ai (aF (bz (aa (mc (.int 1)) (aa (mc (.int 1)) (aa (mc (.int 2)) ah))))) (aj 2 ar (aa (mv 0) (aa (mc (.int 3)) ah)))) (aa (af ai (mc (.str "abcdefghijklmnopqrstuvwxyz")) (aj 2 ar (aa (mv 0) (aa (mc (.int 26)) ah)))) ah)))
 (au (aO 3 (aF (bz (aa (mv 11) (aa (af ai (af ai (mv 1) (aj 2 ar (aa (mv 0) (aa (gp dq (aa (mv 1) ah)) ah)))) (mc (.int 0))) (aa (xJ (af av (mv 9) (mc (.str "z"))) oN (oS (mc (.int 8)))) (aa (mc (.str "")) (aa (mc (.str "A")) (aa (mc (.str "abcdefghi")) (aa (af av (mv 9) (mc (.str " "))) (aa (mc (.int 7)) ah)))))))))))
 (au (aO 4 (af ai (mv 3) (aj 2 ar (aa (mv 0) (aa (mc (.int 8)) ah)))))
 (au (aO 5 (aF (bz ah)))
 (au (lD (aV (aT (aa (aF (dm d_ (eh (mv 1)))) (aa (aF (dm d_ (eh (mv 2)))) ah)))) (gN 6) (au (dU (cB (af ee (mv 7) (mc (.int 2)))) (aO 6 (af av (af av (gW (mv 6) oN (oS (mv 8))) (af lH (aF (bz (aa (af ai (mv 6) (mv 8)) ah))) (mv 10))) (gW (mv 6) (oS (mv 8)) oN))) (dU (cB (af bI (mv 7) (mc (.int 2)))) (au (aO 12 (gW (mv 6) (oS (mv 8)) (oS (af av (mv 8) (mc (.int 2))))))
 (aO 6 (af av (af av (gW (mv 6) oN (oS (mv 8))) (iY (mv 12) (cK cn (mc (.int 1))))) (gW (mv 6) (oS (af av (mv 8) (mc (.int 2)))) oN)))) (dU (cB (af bI (mv 7) (mc (.int 3)))) (aO 6 (iY (mv 6) (cK cn (mc (.int 1))))) (dU (cB (af bI (mv 7) (mc (.int 4)))) (aO 6 (af av (gW (mv 6) oN (oS (mv 8))) (gW (mv 6) (oS (af av (mv 8) (mc (.int 1)))) oN))) (dU (cB (af ee (mv 7) (mc (.int 7)))) (gH (af av (aT (aa (mv 4) ah)) (gW (af ai (mv 6) (mv 8)) (oS (mc (.int 1))) oN)) (dO (mv 6) (mv 8))) (dU (cB (af bI (mv 7) (mc (.int 7)))) (gH (aF (dm d_ (eh (af ai (mv 6) (mv 8))))) (dO (mv 6) (mv 8))) (aO 6 (af av (mv 6) (gW (mv 6) oN (oS (mc (.int 1))))))))))))
 (pJ (nV "list" f_ (mv 5) (aa (mv 6) ah)))))
 (aU (aT (aa (af ai (mv 5) (mc (.int 0))) (aa (af ai (mv 5) (mc (.int 1))) ah))))))))))
noncomputable def bC:List AV->S->R AV:=gh 13 eS
noncomputable def fI:Ms:=
 (au (pI 2 3 4 (aa (aj 2 ar (aa (mv 0) (aa (gp dq (aa (mv 1) ah)) ah))) (aa (af av (mc (.int 1)) (aj 2 ar (aa (mv 0) (aa (mc (.int 8)) ah)))) (aa (aj 2 ar (aa (mv 0) (aa (mc (.int 5)) ah))) ah))))
 (au (fC 5 6 (aa (aF (dm d_ (eh (af ai (mv 1) (mv 2))))) (aa (af fh (mc (.int 1)) (af bf (mc (.int 2)) (aj 2 ar (aa (mv 0) (aa (mc (.int 2)) ah))))) ah)))
 (au (dU (cB (af bI (mv 4) (mc (.int 4)))) (au (aO 7 (af lH (gW (mv 5) (oS (mv 3)) (oS (af av (mv 3) (mc (.int 1))))) (af fh (mc (.int 1)) (mv 6))))
 (aO 5 (af av (af av (gW (mv 5) oN (oS (mv 3))) (mv 7)) (gW (mv 5) (oS (af av (mv 3) (mc (.int 1)))) oN)))) (dU (cT (cK (bU "tuple") (af ai (mv 5) (mv 3)))) (au (gH (af ai (mv 5) (mv 3)) (gT 2 (aw (gN 9) (aw (gN 10) cZ))))
 (au (aO 8 (aF (bz (aa (aT (aa (af av (mv 9) (mv 6)) (aa (mv 10) ah))) (aa (aT (aa (mv 9) (aa (af av (mv 10) (mv 6)) ah))) (aa (aT (aa (af bf (mv 9) (mc (.int 2))) (aa (af bf (mv 10) (mc (.int 2))) ah))) (aa (aj 2 ak (aa (aT (aa (mv 9) (aa (mv 10) ah))) (aa (aT (aa (mv 6) (aa (mc (.int 1)) ah))) ah))) ah)))))))
    (gH (af ai (mv 8) (mv 4)) (dO (mv 5) (mv 3))))) (gH (af ai (aF (bz (aa (af av (af ai (mv 5) (mv 3)) (mv 6)) (aa (af av (af ai (mv 5) (mv 3)) (mv 6)) (aa (mc (.bl true)) (aa (mc .aY) ah)))))) (mv 4)) (dO (mv 5) (mv 3)))))
 (aU (af av (af av (gW (mv 1) oN (oS (mv 2))) (aF (bz (aa (dm gJ (eh (mv 5))) ah)))) (gW (mv 1) (oS (af av (mv 2) (mc (.int 1)))) oN))))))
noncomputable def a_:List AV->S->R AV:=gh 11 fI
noncomputable def fS:Ms:=
 (au (aO 2 (gu (gp ia (aa (aF (bz (aa (mv 0) (aa (mv 1) ah)))) ah))))
 (au (aO 3 (gu (aj 2 bc (aa (mv 0) (aa (mv 1) ah)))))
 (aU (eJ (cK (bU "bool") (mv 3)) (eJ (af bI (mv 3) (gu (aj 2 br (aa (mv 0) (aa (mv 1) ah))))) (af bI (gu (gp ia (aa (aF (bz (aa (mv 0) (aa (mv 1) ah)))) ah))) (mv 2)))))))
noncomputable def bG:List AV->S->R AV:=gh 4 fS
noncomputable def rM:Ms:=
 (au (aO 1 (aj 1 c_ (aa (mv 0) ah)))
 (au (lD (nA (aa (mc (.int 3)) ah)) (gN 2) (au (aO 3 (aF (aK [("_law_name",none),("_law_state",some 1)] (xo (sZ (aj 2 cE (aa (mv 1) (aa (aj 2 ar (aa (mv 1) (aa (mc (.int 6)) ah))) ah))))) (gN 0) bE (aj 2 dP (aa (mv 1) (aa (mv 0) ah))))))
 (au (fC 5 6 (aa (aF (aK [("_law_pair_here",none)] (aV (mv 3)) (gN 0) bE (af ai (mv 0) (mc (.int 0))))) (aa (aF (aK [("_law_pair_here",none)] (aV (mv 3)) (gN 0) bE (af ai (mv 0) (mc (.int 1))))) ah)))
 (au (dU (iM (cF (cT (gu (aj 2 bG (aa (mv 5) (aa (mv 6) ah)))))) (iM (cF (cT (gu (aj 2 bG (aa (dm gJ (eh (mv 5))) (aa (mv 6) ah)))))) (cF (cT (gu (aj 2 br (aa (mv 5) (aa (mv 6) ah)))))))) (aU (mc (.bl false))) bH)
 (lD (nA (aa (af bf (mc (.int 12)) (gp nK (aa (gu (af cY (mv 3) (aF (bz ah)))) ah))) ah)) (gN 4) (au (fC 7 8 (aa (aF (dm d_ (eh (mv 5)))) (aa (aF (dm d_ (eh (mv 6)))) ah)))
 (au (dU (cB (af jQ (aj 2 ar (aa (mv 1) (aa (mc (.int 3)) ah))) (mc (.int 0)))) (gH (aj 3 bC (aa (mv 1) (aa (mv 7) (aa (mv 8) ah)))) (gT 2 (aw (gN 7) (aw (gN 8) cZ)))) (dU (cB (af bI (aj 2 ar (aa (mv 1) (aa (mc (.int 2)) ah))) (mc (.int 0)))) (aO 7 (aj 2 a_ (aa (mv 1) (aa (mv 7) ah)))) (aO 8 (aj 2 a_ (aa (mv 1) (aa (mv 8) ah))))))
 (dU (cF (cT (gu (aj 2 bG (aa (mv 7) (aa (mv 8) ah)))))) (aU (mc (.bl false))) bH))))))))
 (aU (mc (.bl true)))))
noncomputable def iB:List AV->S->R AV:=gh 9 rM
def top (i:Nat):Stmt:=PySem.Challenge.pw_royaltree_k75_statements_bent_in_both.main.body.getD i (.Pass ⟨0,0,0,0⟩)
set_option hygiene false in
local macro_rules | `(tactic| walk_at "q") => `(tactic| first
 | ((with_reducible show PE _ _ (tE _ _ (mv _)));exact LZ (pv _))
 | ((with_reducible show PA _ (_ :: _) _); refine sL ?_ ?_ <;> walk_at "q")
 | ((with_reducible exact vW))
 | ((with_reducible exact FI))
 | ((with_reducible exact FA))
 | ((with_reducible exact FF))
 | ((with_reducible exact I_))
 | ((with_reducible show(_:Nat)<=_);first|decide|omega)
 | ((with_reducible show PE _ _ (tE _ _ (mc _)));exact FG (by with_reducible assumption:uu T mg _ _))
 | ((with_reducible show PE _ _ (tE _ _ (af av _ _))); refine jU (LQ rfl) ?_ ?_ <;> walk_at "q")
 | ((with_reducible show PE _ _ (tE _ _ (af fh _ _))); refine jU (LM) ?_ ?_ <;> walk_at "q")
 | ((with_reducible show PE _ _ (tE _ _ (af bf _ _))); refine jU (LP) ?_ ?_ <;> walk_at "q")
 | ((with_reducible show PE _ _ (tE _ _ (af di _ _))); refine jU (IH) ?_ ?_ <;> walk_at "q")
 | ((with_reducible show PE _ _ (tE _ _ (af cR _ _))); refine jU (oMod) ?_ ?_ <;> walk_at "q")
 | ((with_reducible show PE _ _ (tE _ _ (af pL _ _))); refine jU (LN) ?_ ?_ <;> walk_at "q")
 | ((with_reducible show PE _ _ (tE _ _ (aj _ _ _))); refine L0 (by with_reducible assumption : Fk P w T mg base _ _ _ _) (hr.mono ?_) ?_ <;> walk_at "q")
 | ((with_reducible show PE _ _ (tE _ _ (af ai _ _))); refine IX (Pz rfl) ?_ ?_ <;> walk_at "q")
 | ((with_reducible show PE _ _ (tE _ _ (af iW _ _))); refine Cp Ac ?_ ?_ <;> walk_at "q")
 | ((with_reducible show PE _ _ (tE _ _ (aT _))); refine Fz ?_ <;> walk_at "q")
 | ((with_reducible show PE _ _ (tE _ _ (aF _))); refine zF ?_ <;> walk_at "q")
 | ((with_reducible show PE _ _ (tL _ _ (bz _))); refine zD ?_ <;> walk_at "q")
 | ((with_reducible show PE _ _ (tE _ _ (af bI _ _))); refine jT (oEq rfl hu) ?_ ?_ <;> walk_at "q")
 | ((with_reducible show PE _ _ (tE _ _ (af cY _ _))); refine jT (NS rfl hu) ?_ ?_ <;> walk_at "q")
 | ((with_reducible show PE _ _ (tE _ _ (af ee _ _))); refine jT (oLt) ?_ ?_ <;> walk_at "q")
 | ((with_reducible show PE _ _ (tE _ _ (af my _ _))); refine jT (oLe) ?_ ?_ <;> walk_at "q")
 | ((with_reducible show PE _ _ (tE _ _ (af jQ _ _))); refine jT (NT) ?_ ?_ <;> walk_at "q")
 | ((with_reducible show PE _ _ (tE _ _ (af jR _ _))); refine jT (NU) ?_ ?_ <;> walk_at "q")
 | ((with_reducible show PT _ _ (jn _ _ (cB (af bI _ _)))); refine hZ (oEq rfl hu) ?_ ?_ <;> walk_at "q")
 | ((with_reducible show PT _ _ (jn _ _ (cB (af cY _ _)))); refine hZ (NS rfl hu) ?_ ?_ <;> walk_at "q")
 | ((with_reducible show PT _ _ (jn _ _ (cB (af ee _ _)))); refine hZ (oLt) ?_ ?_ <;> walk_at "q")
 | ((with_reducible show PT _ _ (jn _ _ (cB (af my _ _)))); refine hZ (oLe) ?_ ?_ <;> walk_at "q")
 | ((with_reducible show PT _ _ (jn _ _ (cB (af jQ _ _)))); refine hZ (NT) ?_ ?_ <;> walk_at "q")
 | ((with_reducible show PT _ _ (jn _ _ (cB (af jR _ _)))); refine hZ (NU) ?_ ?_ <;> walk_at "q")
 | ((with_reducible show PT _ _ (jn _ _ (cB (af nM _ _)))); refine Bv Ac ?_ ?_ <;> walk_at "q")
 | ((with_reducible show PE _ _ (tE _ _ (b9 ee ee _ _ _))); refine kL oLt oLt ?_ ?_ ?_ <;> walk_at "q")
 | ((with_reducible show PT _ _ (jn _ _ (cB (b9 ee ee _ _ _)))); refine jq oLt oLt ?_ ?_ ?_ <;> walk_at "q")
 | ((with_reducible show PE _ _ (tE _ _ (b9 my my _ _ _))); refine kL oLe oLe ?_ ?_ ?_ <;> walk_at "q")
 | ((with_reducible show PT _ _ (jn _ _ (cB (b9 my my _ _ _)))); refine jq oLe oLe ?_ ?_ ?_ <;> walk_at "q")
 | ((with_reducible show PE _ _ (tE _ _ (b9 iU iU _ _ _))); refine kL B6 B6 ?_ ?_ ?_ <;> walk_at "q")
 | ((with_reducible show PT _ _ (jn _ _ (cB (b9 iU iU _ _ _)))); refine jq B6 B6 ?_ ?_ ?_ <;> walk_at "q")
 | ((with_reducible show PE _ _ (tE _ _ (b9 bI bI _ _ _))); refine kL (oEq rfl hu) (oEq rfl hu) ?_ ?_ ?_ <;> walk_at "q")
 | ((with_reducible show PT _ _ (jn _ _ (cB (b9 bI bI _ _ _)))); refine jq (oEq rfl hu) (oEq rfl hu) ?_ ?_ ?_ <;> walk_at "q")
 | ((with_reducible show PE _ _ (tE _ _ (xJ _ _ _))); refine FC ?_ ?_ ?_ <;> walk_at "q")
 | ((with_reducible show PE _ _ (tL _ _ (oA _))); refine zC (by with_reducible assumption : mg _ = none) (by with_reducible assumption : mg _ = none) ?_ <;> walk_at "q")
 | ((with_reducible show PE _ _ (tE _ _ (cK ib _))); refine Cm rfl (by with_reducible assumption : mg _ = none) (by with_reducible assumption : mg _ = none) (by with_reducible assumption : mg _ = none) ?_ <;> walk_at "q")
 | ((with_reducible refine Ie ?_) <;> walk_at "q")
 | ((with_reducible refine Bu ?_) <;> walk_at "q")
 | ((with_reducible refine PW.pt (pw_or' ?_ ?_)) <;> walk_at "q")
 | ((with_reducible refine pw_or' ?_ ?_) <;> walk_at "q")
 | ((with_reducible refine pw_or1' ?_) <;> walk_at "q")
 | ((with_reducible show PT _ _ (jn _ _ (cT _))); refine LK rfl ?_ <;> walk_at "q")
 | ((with_reducible refine FE ?_) <;> walk_at "q")
 | ((with_reducible show PE _ _ (tE _ _ (cK cn _))); refine IU LO ?_ <;> walk_at "q")
 | ((with_reducible refine FK ?_ ?_) <;> walk_at "q")
 | ((with_reducible refine IW ?_ ?_) <;> walk_at "q")
 | ((with_reducible refine FD ?_) <;> walk_at "q")
 | ((with_reducible show PE _ _ (tE _ _ (yl _ _ _))); refine IY ?_ ?_ ?_ <;> walk_at "q")
 | ((with_reducible exact I0))
 | ((with_reducible show PE _ _ (tE _ _ (nW _))); (with_reducible refine Co ?hh ?ha ?hb ?hc ?hd); (case ha => rfl); (case hb => rfl); (case hc => exact List.cons_ne_nil _ _); (case hd => decide); walk_at "q")
 | ((with_reducible refine zA ?_ ?_ ?_) <;> walk_at "q")
 | ((with_reducible exact Cc))
 | ((with_reducible show PE _ _ (tE _ _ (gW _ _ _))); refine IV rfl ?_ ?_ ?_ <;> walk_at "q")
 | ((with_reducible exact y_))
 | ((with_reducible refine y9 ?_) <;> walk_at "q")
 | ((with_reducible refine IZ ?_) <;> walk_at "q")
 | ((with_reducible refine FJ ?_) <;> walk_at "q")
 | ((with_reducible refine Cd ?_) <;> walk_at "q")
 | ((with_reducible refine Fw ?_) <;> walk_at "q")
 | ((with_reducible show PE _ _ (tE _ _ (nV "list" f_ _ _))); refine zG rfl PySem.F.plainAttrs_list PySem.F.slot_list_append PySem.F.type_list_append CW ?_ ?_ <;> walk_at "q")
 | ((with_reducible show PE _ _ (tE _ _ (gp dq _))); refine Cr (Nv rfl) (by with_reducible assumption : mg _ = none) PySem.boot_len ?_ <;> walk_at "q")
 | ((with_reducible show PE _ _ (tE _ _ (gp kI _))); refine Cr (cAbs) (by with_reducible assumption : mg _ = none) Ro.boot_abs ?_ <;> walk_at "q")
 | ((with_reducible show PE _ _ (tE _ _ (gp sM _))); refine Cr (Nu rfl) (by with_reducible assumption : mg _ = none) boot_max ?_ <;> walk_at "q")
 | ((with_reducible show PE _ _ (tE _ _ (gp iV _))); refine Cr (C1) (by with_reducible assumption : mg _ = none) Ro.boot_divmod ?_ <;> walk_at "q")
 | ((with_reducible show PE _ _ (tE _ _ (gp nK _))); refine Ja cInt (by with_reducible assumption : mg _ = none) Ro.boot_int ?_ <;> walk_at "q")
 | ((with_reducible show PE _ _ (tE _ _ (dm dC _))); refine IT (Nw rfl) (by with_reducible assumption : mg _ = none) Ro.boot_all ?_ <;> walk_at "q")
 | ((with_reducible show PE _ _ (tL _ _ (dm d_ _))); refine IS (J6 rfl) (by with_reducible assumption : mg _ = none) Ro.boot_list ?_ <;> walk_at "q")
 | ((with_reducible show PE _ _ (tE _ _ (dm gJ _))); refine IS (G0 rfl) (by with_reducible assumption : mg _ = none) Ro.boot_tuple ?_ <;> walk_at "q")
 | ((with_reducible show PE _ _ (tE _ _ (cK (bU _) _))); refine FH rfl (by decide) (by with_reducible assumption : mg _ = none) (by with_reducible assumption : mg _ = none) (by first | exact Ro.boot_int | exact Ro.boot_bool | exact Ro.boot_list | exact Ro.boot_tuple | exact Ro.boot_str) ?_ <;> walk_at "q")
 | ((with_reducible show PE _ _ (tE _ _ (gp ia _))); refine Ja (J5 rfl hr) (by with_reducible assumption : mg _ = none) Ro.boot_str ?_ <;> walk_at "q")
 | ((with_reducible show PE _ _ (tE _ _ (iY _ _))); refine Ck ?_ ?_ <;> walk_at "q")
 | ((with_reducible show PE _ _ (tE _ _ (af lH _ _))); refine jU IF ?_ ?_ <;> walk_at "q")
 | ((with_reducible show PE _ _ (tE _ _ (nV "str" lI _ _))); refine zG rfl PySem.F.plainAttrs_str PySem.F.slot_str_join PySem.F.type_str_join J0 ?_ ?_ <;> walk_at "q")
 | ((with_reducible show PE _ _ (tL _ _ (rj _))); refine zB (by with_reducible assumption : mg _ = none) ?_ <;> walk_at "q")
 | ((with_reducible show PE _ _ (tE _ _ (af pM _ _))); refine jT IG ?_ ?_ <;> walk_at "q")
 | ((with_reducible show PT _ _ (jn _ _ (cB (af pM _ _)))); refine hZ IG ?_ ?_ <;> walk_at "q")
 | ((with_reducible show PI _ _ _ (tW _ _ (sx _))); refine LX ?_ <;> walk_at "q")
 | ((with_reducible show PE _ _ (tL _ _ (aK _ _ _ _ _))); refine Ce _ (dS.of rfl (by decide +kernel) (by decide +kernel) (by decide +kernel) (by repeat (first | exact trivial | refine ⟨⟨rfl, rfl, by first | exact .inl rfl | exact .inr rfl⟩, ?_⟩))) rfl ?_ (fun _ _ _ _ _ => ?_) (fun _ _ _ _ _ => ?_) (fun _ _ _ _ _ => ?_) <;> walk_at "q")
 | ((with_reducible exact y'))
 | ((with_reducible show PI _ _ _ (tW _ _ (nA (aa _ ah)))); refine IQ (by with_reducible assumption : mg _ = none) ?_ <;> walk_at "q")
 | ((with_reducible show PI _ _ _ (tW _ _ (jC _ _))); refine Cf rfl (by with_reducible assumption : mg _ = none) ?_ ?_ <;> walk_at "q")
 | ((with_reducible show PI _ _ _ (tW _ _ (xo _))); refine LY rfl ?_ <;> walk_at "q")
 | ((with_reducible show PI _ _ _ (tW _ _ (aV _))); refine LW rfl ?_ <;> walk_at "q")
 | ((with_reducible show PG _ _ (tT _ _ (gN _)));exact Cj (by first|exact nd|(show List.Nodup (_ :: _);decide +kernel)))
 | ((with_reducible show PG _ _ (tT _ _ (gT _ _))); refine Fx rfl rfl ?_ <;> walk_at "q")
 | ((with_reducible show PG _ _ (tT _ _ (dO _ _))); refine Ci ?_ ?_ <;> walk_at "q")
 | ((with_reducible show xf _ (_ :: _) _); refine zE ?_ ?_ <;> walk_at "q")
 | ((with_reducible exact Cg))
 | ((with_reducible exact B2))
 | ((with_reducible exact Fi))
 | ((with_reducible exact B1))
 | ((with_reducible refine B3 ?_ ?_) <;> walk_at "q")
 | ((with_reducible refine Fh ?_) <;> walk_at "q")
 | ((with_reducible show PS _ _ (tS _ _ (aO _ (aF (aK _ _ _ _ _))))); refine uU _ (dS.of rfl (by decide +kernel) (by decide +kernel) (by decide +kernel) (by repeat (first | exact trivial | refine ⟨⟨rfl, rfl, by first | exact .inl rfl | exact .inr rfl⟩, ?_⟩))) rfl nd ?_ (fun _ _ _ _ _ => ?_) (fun _ _ _ _ _ => ?_) (fun _ _ _ _ _ => ?_) <;> walk_at "q")
 | ((with_reducible show PS _ _ (tS _ _ (aO _ (nW _)))); (with_reducible refine ms_setD ?hN ?_ ?hi ?hx ?hf); (case hN => exact nd); (case hi => rfl); (case hx => exact Or.inl rfl); (case hf => exact Or.inl rfl); walk_at "q")
 | ((with_reducible show PS _ _ (tS _ _ (aO _ (aF (bz _))))); (with_reducible refine B_ ?hN ?_ ?hi ?hx ?hf); (case hN => exact nd); (case hi => rfl); (case hx => exact Or.inl rfl); (case hf => exact Or.inl rfl); walk_at "q")
 | ((with_reducible show PS _ _ (tS _ _ (aO _ _))); refine zy nd ?_ <;> walk_at "q")
 | ((with_reducible show PS _ _ (tS _ _ (aU _))); refine Fq ?_ <;> walk_at "q")
 | ((with_reducible show PS _ _ (tS _ _ (dU _ _ _))); refine IP ?_ ?_ ?_ <;> walk_at "q")
 | ((with_reducible show PS _ _ (tS _ _ (pJ _))); refine Ca ?_ <;> walk_at "q")
 | ((with_reducible show PS _ _ (tS _ _ (lD _ _ _))); refine Fu PassesOwn.never rfl ?_ ?_ ?_ <;> walk_at "q")
 | ((with_reducible show PS _ _ (tS _ _ (fC _ _ _))); refine Ft rfl nd ?_ <;> walk_at "q")
 | ((with_reducible show PS _ _ (tS _ _ (pI _ _ _ _))); refine B' rfl nd ?_ <;> walk_at "q")
 | ((with_reducible show PS _ _ (tS _ _ (gH _ _))); refine Fv ?_ ?_ ?_ <;> walk_at "q")
 | ((with_reducible show PS _ _ (tS _ _ (nF _ _ _))); refine Cb Ac ?_ ?_ ?_ <;> walk_at "q")
 | ((with_reducible show PS _ _ (tS _ _ (xr _ _ _))); refine Fp _ PassesOwn.never ?_ ?_ <;> walk_at "q")
 | ((with_reducible show ke _ _ (tS _ _ (au _ _))); refine zx ?_ ?_ <;> walk_at "q")
 | ((with_reducible show ke _ _ (tS _ _ bH));exact B9)
 | (refine B8 ?_ <;> walk_at "q"))
local macro_rules | `(tactic| walk_at "b") => `(tactic| (intro _ _ _ _ _ _ us hl; first
 | (match us,hl with|[],_=>rfl)|(match us,hl with|[_],_=>rfl)|(match us,hl with|[_,_],_=>rfl)|(match us,hl with|[_,_,_],_=>rfl)|(match us,hl with|[_,_,_,_],_=>rfl)
 | (match us,hl with|[_,_,_,_,_],_=>rfl)|(match us,hl with|[_,_,_,_,_,_],_=>rfl)))
set_option hygiene false in
local macro_rules | `(tactic| walk_at "g") => `(tactic| (intro hr nd; have Ac := Jn hr; have hu := Mi hr; walk_at "q"))
section
variable {P:Program}{w:World}{T:Tx}{mg:Str->Option Value}{base:Heap}
variable (nh:mg "abs"=none)
variable (dW:mg "all"=none)
variable (fX:mg "bool"=none)
variable (iP:mg "divmod"=none)
variable (iO:mg "int"=none)
variable (aC:mg "isinstance"=none)
variable (fe:mg "len"=none)
variable (dB:mg "list"=none)
variable (r_:mg "max"=none)
variable (fN:mg "range"=none)
variable (r9:mg "set"=none)
variable (fW:mg "sorted"=none)
variable (kh:mg "str"=none)
variable (cb:mg "tuple"=none)
variable (kg:mg "zip"=none)
variable (cX:uu T mg "LONGEST_NAME" eB)
variable (eM:uu T mg "NOTHING" c8)
variable (sG:uu T mg "ONE" tf)
variable (iR:uu T mg "PLACES" kS)
variable (bZ:Fk P w T mg base "greatest_divisor" 2 1 aS)
variable (ou:Fk P w T mg base "plus" 2 2 jZ)
variable (oq:Fk P w T mg base "sum_of" 1 3 cC)
variable (iq:Fk P w T mg base "taken_from" 2 3 bS)
variable (lW:Fk P w T mg base "is_less" 2 1 b_)
variable (fo:Fk P w T mg base "is_number" 1 1 bW)
variable (du:Fk P w T mg base "is_tuple_of" 2 1 cm)
variable (lV:Fk P w T mg base "is_name" 1 1 fV)
variable (gO:Fk P w T mg base "is_fraction" 1 2 cM)
variable (gf:Fk P w T mg base "is_statement" 1 3 cD)
variable (fE:Fk P w T mg base "is_statements" 1 4 bM)
variable (fD:Fk P w T mg base "stands_behind" 2 4 bL)
variable (dE:Fk P w T mg base "shows_statements" 2 5 bc)
variable (iy:Fk P w T mg base "_law_begin" 1 1 c_)
variable (bh:Fk P w T mg base "_law_take" 2 1 ar)
variable (bA:Fk P w T mg base "_law_sum" 2 1 ak)
variable (ir:Fk P w T mg base "_law_times" 3 2 c5)
variable (fG:Fk P w T mg base "_law_fraction" 3 2 aM)
variable (jb:Fk P w T mg base "_law_less" 2 1 cH)
variable (ja:Fk P w T mg base "_law_pair" 2 3 dP)
variable (iw:Fk P w T mg base "_law_names" 2 2 cE)
variable (dF:Fk P w T mg base "_law_is_fraction" 1 2 bj)
variable (dk:Fk P w T mg base "_law_is_statement" 1 3 aX)
variable (gg:Fk P w T mg base "_law_goes_on" 2 2 bB)
variable (eD:Fk P w T mg base "_law_shown" 2 4 br)
variable (eQ:Fk P w T mg base "_law_both_bent" 3 2 bC)
variable (fF:Fk P w T mg base "_law_one_bent" 2 2 a_)
variable (iu:Fk P w T mg base "_law_right" 2 6 bG)
include nh in
theorem jw (_:Df T mg "greatest_divisor" (top 3)):Fk P w T mg base "greatest_divisor" 2 1 aS:=by
 unfold aS dI
 refine cu ["one","other"] (by with_reducible assumption) ⟨rfl,rfl,rfl,by decide +kernel,rfl,by decide +kernel,by decide +kernel⟩ (by walk_at "b") rfl λ _ _ _ _ _ _ _=>?_
 walk_at "g"
include bZ in
theorem B4 (_:Df T mg "plus" (top 4)):Fk P w T mg base "plus" 2 2 jZ:=by
 unfold jZ vo
 refine cu ["one","other","shared","together","divisor","top","below","other_top","other_below"] (by with_reducible assumption) ⟨rfl,rfl,rfl,by decide +kernel,rfl,by decide +kernel,by decide +kernel⟩ (by walk_at "b") rfl λ _ _ _ _ _ _ _=>?_
 walk_at "g"
include eM ou in
theorem xF (_:Df T mg "sum_of" (top 5)):Fk P w T mg base "sum_of" 1 3 cC:=by
 unfold cC oQ
 refine cu ["parts","together","part"] (by with_reducible assumption) ⟨rfl,rfl,rfl,by decide +kernel,rfl,by decide +kernel,by decide +kernel⟩ (by walk_at "b") rfl λ _ _ _ _ _ _ _=>?_
 walk_at "g"
include ou in
theorem o8 (_:Df T mg "taken_from" (top 6)):Fk P w T mg base "taken_from" 2 3 bS:=by
 unfold bS iE
 refine cu ["one","other"] (by with_reducible assumption) ⟨rfl,rfl,rfl,by decide +kernel,rfl,by decide +kernel,by decide +kernel⟩ (by walk_at "b") rfl λ _ _ _ _ _ _ _=>?_
 walk_at "g"
theorem uR (_:Df T mg "is_less" (top 7)):Fk P w T mg base "is_less" 2 1 b_:=by
 unfold b_ qv
 refine cu ["one","other"] (by with_reducible assumption) ⟨rfl,rfl,rfl,by decide +kernel,rfl,by decide +kernel,by decide +kernel⟩ (by walk_at "b") rfl λ _ _ _ _ _ _ _=>?_
 walk_at "g"
include fX iO aC in
theorem qJ (_:Df T mg "is_number" (top 10)):Fk P w T mg base "is_number" 1 1 bW:=by
 unfold bW jj
 refine cu ["thing"] (by with_reducible assumption) ⟨rfl,rfl,rfl,by decide +kernel,rfl,by decide +kernel,by decide +kernel⟩ (by walk_at "b") rfl λ _ _ _ _ _ _ _=>?_
 walk_at "g"
include aC fe cb in
theorem nN (_:Df T mg "is_tuple_of" (top 11)):Fk P w T mg base "is_tuple_of" 2 1 cm:=by
 unfold cm jH
 refine cu ["thing","many"] (by with_reducible assumption) ⟨rfl,rfl,rfl,by decide +kernel,rfl,by decide +kernel,by decide +kernel⟩ (by walk_at "b") rfl λ _ _ _ _ _ _ _=>?_
 walk_at "g"
include dW aC fe kh cX in
theorem uQ (_:Df T mg "is_name" (top 12)):Fk P w T mg base "is_name" 1 1 fV:=by
 unfold fV qu
 refine cu ["thing"] (by with_reducible assumption) ⟨rfl,rfl,rfl,by decide +kernel,rfl,by decide +kernel,by decide +kernel⟩ (by walk_at "b") rfl λ _ _ _ _ _ _ _=>?_
 walk_at "g"
include dW bZ fo du in
theorem nO (_:Df T mg "is_fraction" (top 13)):Fk P w T mg base "is_fraction" 1 2 cM:=by
 unfold cM jI
 refine cu ["thing","top","below"] (by with_reducible assumption) ⟨rfl,rfl,rfl,by decide +kernel,rfl,by decide +kernel,by decide +kernel⟩ (by walk_at "b") rfl λ _ _ _ _ _ _ _=>?_
 walk_at "g"
include dW iR fo du lV gO in
theorem mz (_:Df T mg "is_statement" (top 18)):Fk P w T mg base "is_statement" 1 3 cD:=by
 unfold cD ji
 refine cu ["thing","person","earned","freed","worked","paid","ready","kept","wrong","advance"] (by with_reducible assumption) ⟨rfl,rfl,rfl,by decide +kernel,rfl,by decide +kernel,by decide +kernel⟩ (by walk_at "b") rfl λ _ _ _ _ _ _ _=>?_
 walk_at "g"
include dW aC dB cb kg gf in
theorem lL (_:Df T mg "is_statements" (top 17)):Fk P w T mg base "is_statements" 1 4 bM:=by
 unfold bM dA
 refine cu ["thing"] (by with_reducible assumption) ⟨rfl,rfl,rfl,by decide +kernel,rfl,by decide +kernel,by decide +kernel⟩ (by walk_at "b") rfl λ _ _ _ _ _ _ _=>?_
 walk_at "g"
include eM sG oq iq lW in
theorem lK (_:Df T mg "stands_behind" (top 19)):Fk P w T mg base "stands_behind" 2 4 bL:=by
 unfold bL iJ
 refine cu ["row","later","due","ready_ahead","kept_ahead","person","earned","freed","worked","paid","ready","kept","wrong","advance"] (by with_reducible assumption) ⟨rfl,rfl,rfl,by decide +kernel,rfl,by decide +kernel,by decide +kernel⟩ (by walk_at "b") rfl λ _ _ _ _ _ _ _=>?_
 walk_at "g"
include dW kg fE fD in
theorem jv (_:Df T mg "shows_statements" (top 16)):Fk P w T mg base "shows_statements" 2 5 bc:=by
 unfold bc gj
 refine cu ["one","other"] (by with_reducible assumption) ⟨rfl,rfl,rfl,by decide +kernel,rfl,by decide +kernel,by decide +kernel⟩ (by walk_at "b") rfl λ _ _ _ _ _ _ _=>?_
 walk_at "g"
include dB in
theorem ph (_:Df T mg "_law_begin" (top 21)):Fk P w T mg base "_law_begin" 1 1 c_:=by
 unfold c_ iG
 refine cu ["_law_script","_law_cells"] (by with_reducible assumption) ⟨rfl,rfl,rfl,by decide +kernel,rfl,by decide +kernel,by decide +kernel⟩ (by walk_at "b") rfl λ _ _ _ _ _ _ _=>?_
 walk_at "g"
include iP fe in
theorem qK (_:Df T mg "_law_take" (top 22)):Fk P w T mg base "_law_take" 2 1 ar:=by
 unfold ar jl
 refine cu ["_law_state","_law_many","_law_turn","_law_place","_law_cell","_law_mixed","_law_digit"] (by with_reducible assumption) ⟨rfl,rfl,rfl,by decide +kernel,rfl,by decide +kernel,by decide +kernel⟩ (by walk_at "b") rfl λ _ _ _ _ _ _ _=>?_
 walk_at "g"
include nh in
theorem sN (_:Df T mg "_law_sum" (top 23)):Fk P w T mg base "_law_sum" 2 1 ak:=by
 unfold ak iF
 refine cu ["_law_one","_law_other","_law_top","_law_below","_law_first","_law_second"] (by with_reducible assumption) ⟨rfl,rfl,rfl,by decide +kernel,rfl,by decide +kernel,by decide +kernel⟩ (by walk_at "b") rfl λ _ _ _ _ _ _ _=>?_
 walk_at "g"
include bA in
theorem o9 (_:Df T mg "_law_times" (top 24)):Fk P w T mg base "_law_times" 3 2 c5:=by
 unfold c5 jk
 refine cu ["_law_one","_law_top","_law_below"] (by with_reducible assumption) ⟨rfl,rfl,rfl,by decide +kernel,rfl,by decide +kernel,by decide +kernel⟩ (by walk_at "b") rfl λ _ _ _ _ _ _ _=>?_
 walk_at "g"
include bh bA in
theorem lN (_:Df T mg "_law_fraction" (top 25)):Fk P w T mg base "_law_fraction" 3 2 aM:=by
 unfold aM eF
 refine cu ["_law_state","_law_low","_law_high","_law_below","_law_more"] (by with_reducible assumption) ⟨rfl,rfl,rfl,by decide +kernel,rfl,by decide +kernel,by decide +kernel⟩ (by walk_at "b") rfl λ _ _ _ _ _ _ _=>?_
 walk_at "g"
theorem qM (_:Df T mg "_law_less" (top 26)):Fk P w T mg base "_law_less" 2 1 cH:=by
 unfold cH mx
 refine cu ["_law_one","_law_other"] (by with_reducible assumption) ⟨rfl,rfl,rfl,by decide +kernel,rfl,by decide +kernel,by decide +kernel⟩ (by walk_at "b") rfl λ _ _ _ _ _ _ _=>?_
 walk_at "g"
include r_ fN bh bA ir fG in
theorem qL (_:Df T mg "_law_pair" (top 27)):Fk P w T mg base "_law_pair" 2 3 dP:=by
 unfold dP jm
 refine cu ["_law_state","_law_name","_law_size","_law_some","_law_one","_law_freed","_law_rest","_law_coins","_law_worked","_law_owed","_law_other","_law_left","_law_kept","_law_earned","_law_later"] (by with_reducible assumption) ⟨rfl,rfl,rfl,by decide +kernel,rfl,by decide +kernel,by decide +kernel⟩ (by walk_at "b") rfl λ _ _ _ _ _ _ _=>?_
 walk_at "g"
include fN fW bh in
theorem pf (_:Df T mg "_law_names" (top 28)):Fk P w T mg base "_law_names" 2 2 cE:=by
 unfold cE gm
 refine cu ["_law_state","_law_many","_law_letters","_law_found","_law_k","_law_word"] (by with_reducible assumption) ⟨rfl,rfl,rfl,by decide +kernel,rfl,by decide +kernel,by decide +kernel⟩ (by walk_at "b") rfl λ _ _ _ _ _ _ _=>?_
 walk_at "g"
include dW fX iO aC fe cb bA in
theorem jx (_:Df T mg "_law_is_fraction" (top 29)):Fk P w T mg base "_law_is_fraction" 1 2 bj:=by
 unfold bj fv
 refine cu ["_law_thing"] (by with_reducible assumption) ⟨rfl,rfl,rfl,by decide +kernel,rfl,by decide +kernel,by decide +kernel⟩ (by walk_at "b") rfl λ _ _ _ _ _ _ _=>?_
 walk_at "g"
include dW fX iO aC fe kh cb dF in
theorem iX (_:Df T mg "_law_is_statement" (top 30)):Fk P w T mg base "_law_is_statement" 1 3 aX:=by
 unfold aX fM
 refine cu ["_law_thing"] (by with_reducible assumption) ⟨rfl,rfl,rfl,by decide +kernel,rfl,by decide +kernel,by decide +kernel⟩ (by walk_at "b") rfl λ _ _ _ _ _ _ _=>?_
 walk_at "g"
include bA jb in
theorem mB (_:Df T mg "_law_goes_on" (top 31)):Fk P w T mg base "_law_goes_on" 2 2 bB:=by
 unfold bB hG
 refine cu ["_law_one","_law_other","_law_now","_law_due"] (by with_reducible assumption) ⟨rfl,rfl,rfl,by decide +kernel,rfl,by decide +kernel,by decide +kernel⟩ (by walk_at "b") rfl λ _ _ _ _ _ _ _=>?_
 walk_at "g"
include dW aC dB r9 fW cb kg dk gg in
theorem o_ (_:Df T mg "_law_shown" (top 32)):Fk P w T mg base "_law_shown" 2 4 br:=by
 unfold br b7
 refine cu ["_law_one","_law_other","_law_some","_law_names_here"] (by with_reducible assumption) ⟨rfl,rfl,rfl,by decide +kernel,rfl,by decide +kernel,by decide +kernel⟩ (by walk_at "b") rfl λ _ _ _ _ _ _ _=>?_
 walk_at "g"
include fe dB bh in
theorem kJ (_:Df T mg "_law_both_bent" (top 33)):Fk P w T mg base "_law_both_bent" 3 2 bC:=by
 unfold bC eS
 refine cu ["_law_state","_law_one","_law_other","_law_called","_law_word","_law_found","_law_some","_law_way","_law_at","_law_name","_law_again","_law_letter","_law_pair_here"] (by with_reducible assumption) ⟨rfl,rfl,rfl,by decide +kernel,rfl,by decide +kernel,by decide +kernel⟩ (by walk_at "b") rfl λ _ _ _ _ _ _ _=>?_
 walk_at "g"
include aC fe dB cb bh bA in
theorem lM (_:Df T mg "_law_one_bent" (top 34)):Fk P w T mg base "_law_one_bent" 2 2 a_:=by
 unfold a_ fI
 refine cu ["_law_state","_law_some","_law_at","_law_place","_law_way","_law_row","_law_more","_law_kept","_law_bent","_law_top","_law_below"] (by with_reducible assumption) ⟨rfl,rfl,rfl,by decide +kernel,rfl,by decide +kernel,by decide +kernel⟩ (by walk_at "b") rfl λ _ _ _ _ _ _ _=>?_
 walk_at "g"
include fX aC kh dE eD in
theorem pe (_:Df T mg "_law_right" (top 35)):Fk P w T mg base "_law_right" 2 6 bG:=by
 unfold bG fS
 refine cu ["_law_one","_law_other","_law_kept","_law_found"] (by with_reducible assumption) ⟨rfl,rfl,rfl,by decide +kernel,rfl,by decide +kernel,by decide +kernel⟩ (by walk_at "b") rfl λ _ _ _ _ _ _ _=>?_
 walk_at "g"
include iO dB fN cb iy bh ja iw eD eQ fF iu in
theorem Fj {f:Addr}{fd:FuncData}(F:A5 T.K "law" "law" (top 36) f fd):j_ P w T.K mg base vv 7 f fd ["_law_script"] (oY T 1 iB):=by
 unfold iB rM
 have S:jt ["_law_script","_law_state","_law_turn","_law_pairs","_law_again","_law_one","_law_other","_law_first","_law_second"] ["_law_script"] (bJ (top 36)):=⟨rfl,rfl,rfl,by decide +kernel,rfl,by decide +kernel,by decide +kernel⟩
 refine DG (k:=6) F S λ _ _ _ _ _ _ hr=>?_
 have nd:=S.nd
 revert nd hr
 walk_at "g"
end
theorem G' {P:Program}{w:World}{T:Tx}{mg:Str->Option Value}{base:Heap}(nh:mg "abs"=none)(dW:mg "all"=none)(fX:mg "bool"=none)(iP:mg "divmod"=none)(iO:mg "int"=none)(aC:mg "isinstance"=none)(fe:mg "len"=none)(dB:mg "list"=none)(r_:mg "max"=none)(fN:mg "range"=none)(r9:mg "set"=none)(fW:mg "sorted"=none)(kh:mg "str"=none)(cb:mg "tuple"=none)(kg:mg "zip"=none)(cX:uu T mg "LONGEST_NAME" eB)(eM:uu T mg "NOTHING" c8)(sG:uu T mg "ONE" tf)(iR:uu T mg "PLACES" kS)(d0:Df T mg "greatest_divisor" (top 3)) (d1:Df T mg "plus" (top 4)) (d2:Df T mg "sum_of" (top 5)) (d3:Df T mg "taken_from" (top 6)) (d4:Df T mg "is_less" (top 7)) (d5:Df T mg "is_number" (top 10)) (d6:Df T mg "is_tuple_of" (top 11)) (d7:Df T mg "is_name" (top 12)) (d8:Df T mg "is_fraction" (top 13)) (d9:Df T mg "is_statement" (top 18)) (Np:Df T mg "is_statements" (top 17)) (Nn:Df T mg "stands_behind" (top 19)) (Nm:Df T mg "shows_statements" (top 16)) (Nl:Df T mg "_law_begin" (top 21)) (Nk:Df T mg "_law_take" (top 22)) (Nj:Df T mg "_law_sum" (top 23)) (Ni:Df T mg "_law_times" (top 24)) (Nh:Df T mg "_law_fraction" (top 25)) (Ng:Df T mg "_law_less" (top 26)) (Nf:Df T mg "_law_pair" (top 27)) (Nd:Df T mg "_law_names" (top 28)) (Nc:Df T mg "_law_is_fraction" (top 29)) (Nb:Df T mg "_law_is_statement" (top 30)) (Na:Df T mg "_law_goes_on" (top 31)) (M':Df T mg "_law_shown" (top 32)) (M_:Df T mg "_law_both_bent" (top 33)) (M9:Df T mg "_law_one_bent" (top 34)) (M8:Df T mg "_law_right" (top 35)) (M7:Df T mg "law" (top 36)) {f:Addr}{fd:FuncData}(F:A5 T.K "law" "law" (top 36) f fd) :
  j_ P w T.K mg base vv 7 f fd ["_law_script"] (oY T 1 iB):=by
 have bZ:=jw (P:=P) (w:=w) (base:=base) nh d0
 have ou:=B4 (P:=P) (w:=w) (base:=base) bZ d1
 have oq:=xF (P:=P) (w:=w) (base:=base) eM ou d2
 have iq:=o8 (P:=P) (w:=w) (base:=base) ou d3
 have lW:=uR (P:=P) (w:=w) (base:=base) d4
 have fo:=qJ (P:=P) (w:=w) (base:=base) fX iO aC d5
 have du:=nN (P:=P) (w:=w) (base:=base) aC fe cb d6
 have lV:=uQ (P:=P) (w:=w) (base:=base) dW aC fe kh cX d7
 have gO:=nO (P:=P) (w:=w) (base:=base) dW bZ fo du d8
 have gf:=mz (P:=P) (w:=w) (base:=base) dW iR fo du lV gO d9
 have fE:=lL (P:=P) (w:=w) (base:=base) dW aC dB cb kg gf Np
 have fD:=lK (P:=P) (w:=w) (base:=base) eM sG oq iq lW Nn
 have dE:=jv (P:=P) (w:=w) (base:=base) dW kg fE fD Nm
 have iy:=ph (P:=P) (w:=w) (base:=base) dB Nl
 have bh:=qK (P:=P) (w:=w) (base:=base) iP fe Nk
 have bA:=sN (P:=P) (w:=w) (base:=base) nh Nj
 have ir:=o9 (P:=P) (w:=w) (base:=base) bA Ni
 have fG:=lN (P:=P) (w:=w) (base:=base) bh bA Nh
 have jb:=qM (P:=P) (w:=w) (base:=base) Ng
 have ja:=qL (P:=P) (w:=w) (base:=base) r_ fN bh bA ir fG Nf
 have iw:=pf (P:=P) (w:=w) (base:=base) fN fW bh Nd
 have dF:=jx (P:=P) (w:=w) (base:=base) dW fX iO aC fe cb bA Nc
 have dk:=iX (P:=P) (w:=w) (base:=base) dW fX iO aC fe kh cb dF Nb
 have gg:=mB (P:=P) (w:=w) (base:=base) bA jb Na
 have eD:=o_ (P:=P) (w:=w) (base:=base) dW aC dB r9 fW cb kg dk gg M'
 have eQ:=kJ (P:=P) (w:=w) (base:=base) fe dB bh M_
 have fF:=lM (P:=P) (w:=w) (base:=base) aC fe dB cb bh bA M9
 have iu:=pe (P:=P) (w:=w) (base:=base) fX aC kh dE eD M8
 exact Fj iO dB fN cb iy bh ja iw eD eQ fF iu F
theorem GP {l:PySem.W.OpenLaw}{w:World}{K:PySem.W.Frag}{h:Heap}{mg:Str->Option Value}{fa:Addr}(X:K.In h)(G:h.Ns mainGlobals mg)(MG:mg "law"=some (.ref fa)) (nh:PySem.W.nsIn K mainGlobals "abs"=some none)(dW:PySem.W.nsIn K mainGlobals "all"=some none)(fX:PySem.W.nsIn K mainGlobals "bool"=some none)(iP:PySem.W.nsIn K mainGlobals "divmod"=some none)(iO:PySem.W.nsIn K mainGlobals "int"=some none)(aC:PySem.W.nsIn K mainGlobals "isinstance"=some none)(fe:PySem.W.nsIn K mainGlobals "len"=some none)(dB:PySem.W.nsIn K mainGlobals "list"=some none)(r_:PySem.W.nsIn K mainGlobals "max"=some none)(fN:PySem.W.nsIn K mainGlobals "range"=some none)(r9:PySem.W.nsIn K mainGlobals "set"=some none)(fW:PySem.W.nsIn K mainGlobals "sorted"=some none)(kh:PySem.W.nsIn K mainGlobals "str"=some none)(cb:PySem.W.nsIn K mainGlobals "tuple"=some none)(kg:PySem.W.nsIn K mainGlobals "zip"=some none)(cX:uu (TK K) mg "LONGEST_NAME" eB) (eM:uu (TK K) mg "NOTHING" c8) (sG:uu (TK K) mg "ONE" tf) (iR:uu (TK K) mg "PLACES" kS) (d0:Df (TK K) mg "greatest_divisor" (top 3)) (d1:Df (TK K) mg "plus" (top 4)) (d2:Df (TK K) mg "sum_of" (top 5)) (d3:Df (TK K) mg "taken_from" (top 6)) (d4:Df (TK K) mg "is_less" (top 7)) (d5:Df (TK K) mg "is_number" (top 10)) (d6:Df (TK K) mg "is_tuple_of" (top 11)) (d7:Df (TK K) mg "is_name" (top 12)) (d8:Df (TK K) mg "is_fraction" (top 13)) (d9:Df (TK K) mg "is_statement" (top 18)) (Np:Df (TK K) mg "is_statements" (top 17)) (Nn:Df (TK K) mg "stands_behind" (top 19)) (Nm:Df (TK K) mg "shows_statements" (top 16)) (Nl:Df (TK K) mg "_law_begin" (top 21)) (Nk:Df (TK K) mg "_law_take" (top 22)) (Nj:Df (TK K) mg "_law_sum" (top 23)) (Ni:Df (TK K) mg "_law_times" (top 24)) (Nh:Df (TK K) mg "_law_fraction" (top 25)) (Ng:Df (TK K) mg "_law_less" (top 26)) (Nf:Df (TK K) mg "_law_pair" (top 27)) (Nd:Df (TK K) mg "_law_names" (top 28)) (Nc:Df (TK K) mg "_law_is_fraction" (top 29)) (Nb:Df (TK K) mg "_law_is_statement" (top 30)) (Na:Df (TK K) mg "_law_goes_on" (top 31)) (M':Df (TK K) mg "_law_shown" (top 32)) (M_:Df (TK K) mg "_law_both_bent" (top 33)) (M9:Df (TK K) mg "_law_one_bent" (top 34)) (M8:Df (TK K) mg "_law_right" (top 35)) (M7:Df (TK K) mg "law" (top 36)):∃ fd:FuncData,(∀ (s:Shared) (v:Value),BindsTo s fd ⟨[v],[]⟩ [("_law_script",v)])/\∀ base:Heap,K.In base->base.Ns mainGlobals mg->j_ l.prog w K mg base vv 7 fa fd ["_law_script"] (oY (TK K) 1 iB):=
 GO (h:=h) MG M7 (λ _ _ _ _ _ _ _ _=>.of_eq rfl) λ base f fd F=>G' (PySem.W.mg_none_of X G nh) (PySem.W.mg_none_of X G dW) (PySem.W.mg_none_of X G fX) (PySem.W.mg_none_of X G iP) (PySem.W.mg_none_of X G iO) (PySem.W.mg_none_of X G aC) (PySem.W.mg_none_of X G fe) (PySem.W.mg_none_of X G dB) (PySem.W.mg_none_of X G r_) (PySem.W.mg_none_of X G fN) (PySem.W.mg_none_of X G r9) (PySem.W.mg_none_of X G fW) (PySem.W.mg_none_of X G kh) (PySem.W.mg_none_of X G cb) (PySem.W.mg_none_of X G kg) cX eM sG iR d0 d1 d2 d3 d4 d5 d6 d7 d8 d9 Np Nn Nm Nl Nk Nj Ni Nh Ng Nf Nd Nc Nb Na M' M_ M9 M8 M7 F
end Ro
namespace Ro
open PySem L2
end Ro
namespace L2
open PySem PySem.Spec PyProof.Rows
end L2
namespace Ro
open PySem L2
end Ro
namespace Ro
open PySem L2
abbrev Fs:=List (Int × Int)
def den:Fs->Int
 | []=>1
 | f :: r=>f.2 * den r
def num:Fs->Int
 | []=>0
 | f :: r=>f.1 * den r+f.2 * num r
def NC (fs:Fs):Prop:=∀ f∈fs,1<=f.2
theorem den_pos:∀ {fs:Fs},NC fs->1<=den fs
 | [],_=>by decide
 | f :: r,h=>by
  have h1:1<=f.2:=h f List.mem_cons_self
  have h2:=den_pos (fs:=r) λ g hg=>h g (List.mem_cons_of_mem _ hg)
  show 1<=f.2 * den r
  have:=Int.mul_pos (show 0 < f.2 by omega) (show 0 < den r by omega)
  omega
end Ro
namespace Ro
open PySem L2
abbrev ig (a b:Int):Int:=((Int.gcd a b:Nat):Int)
theorem u6 (a b:Int):ig a b ∣ a:=Int.gcd_dvd_left ..
theorem mF (a b:Int):ig a b ∣ b:=Int.gcd_dvd_right ..
theorem vi {a b:Int}:Int.gcd a b=1 ↔ Nat.Coprime a.natAbs b.natAbs:=Iff.rfl
theorem oI {a b c:Int}(h1:Int.gcd a c=1)(h2:Int.gcd b c=1):Int.gcd (a * b) c=1:=by
 rw[vi]at *
 rw[Int.natAbs_mul]
 exact Nat.Coprime.mul_left h1 h2
theorem lg {a b c:Int}(h1:Int.gcd a b=1)(h2:Int.gcd a c=1):Int.gcd a (b * c)=1:=by
 rw[vi]at *
 rw[Int.natAbs_mul]
 exact Nat.Coprime.mul_right h1 h2
theorem l_ {a b x y:Int}(h:Int.gcd a b=1)(h1:x ∣ a)(h2:y ∣ b):Int.gcd x y=1:=by
 rw[vi]at *
 have q:Nat.gcd x.natAbs y.natAbs ∣ Nat.gcd a.natAbs b.natAbs:=Nat.dvd_gcd (Nat.dvd_trans (Nat.gcd_dvd_left ..) (Int.natAbs_dvd_natAbs.mpr h1)) (Nat.dvd_trans (Nat.gcd_dvd_right ..) (Int.natAbs_dvd_natAbs.mpr h2))
 rw[show Nat.gcd a.natAbs b.natAbs=1 from h]at q
 exact Nat.dvd_one.mp q
theorem rE {a b:Int}(hb:b≠0):Int.gcd (a.fdiv (ig a b)) (b.fdiv (ig a b))=1:=by
 have p:=eW (t:=a) hb
 have e1:=aZ (u6 a b)
 have e2:=aZ (mF a b)
 have q:Int.gcd (a.fdiv (ig a b) * ig a b) (b.fdiv (ig a b) * ig a b)=Int.gcd a b:=by rw[e1,e2]
 rw[Int.gcd_mul_right]at q
 have n:(ig a b).natAbs=Int.gcd a b:=Int.natAbs_natCast _
 rw[n]at q
 exact Nat.eq_of_mul_eq_mul_right p (by rw[q,Nat.one_mul])
theorem jd {a g:Int}(h:g ∣ a)(ha:1<=a)(hg:1<=g):1<=a.fdiv g:=by
 have e:=aZ h
 refine Int.not_lt.mp λ z=>?_
 have:a.fdiv g * g<=0:=Int.mul_nonpos_of_nonpos_of_nonneg (by omega) (by omega)
 omega
theorem Ko {a b c d:Int}(hb:1<=b)(hd:1<=d)(h1:Int.gcd a b=1)(h2:Int.gcd c d=1) :
  fr (a * c) (b * d)=(a.fdiv (ig a d) * c.fdiv (ig c b),b.fdiv (ig c b) * d.fdiv (ig a d)):=by
 have JI:b≠0:=by omega
 have Gw:d≠0:=by omega
 have p1:1<=ig a d:=by have:=eW (t:=a) Gw;show(1:Int)<=((Int.gcd a d:Nat):Int);omega
 have p2:1<=ig c b:=by have:=eW (t:=c) JI;show(1:Int)<=((Int.gcd c b:Nat):Int);omega
 have ea:=aZ (u6 a d)
 have ed:=aZ (mF a d)
 have ec:=aZ (u6 c b)
 have eb:=aZ (mF c b)
 have c1:=rE (a:=a) Gw
 have c2:=rE (a:=c) JI
 have d1:=jd (mF a d) hd p1
 have d2:=jd (mF c b) hb p2
 have da:a.fdiv (ig a d) ∣ a:=⟨_,ea.symm⟩
 have db:b.fdiv (ig c b) ∣ b:=⟨_,eb.symm⟩
 have dc:c.fdiv (ig c b) ∣ c:=⟨_,ec.symm⟩
 have dd:d.fdiv (ig a d) ∣ d:=⟨_,ed.symm⟩
 refine rm (Int.mul_ne_zero JI Gw) ?_ ?_ ?_
 ·have:=Int.mul_pos (show 0 < b.fdiv (ig c b) by omega) (show 0 < d.fdiv (ig a d) by omega)
  omega
 ·exact oI (lg (l_ h1 da db) c1) (lg c2 (l_ h2 dc dd))
 ·generalize a.fdiv (ig a d)=a' at *
  generalize d.fdiv (ig a d)=d' at *
  generalize c.fdiv (ig c b)=c' at *
  generalize b.fdiv (ig c b)=b' at *
  generalize ig a d=g at *
  generalize ig c b=k at *
  rw[<-ea,<-ed,<-ec,<-eb]
  simp only[Int.mul_assoc,Int.mul_comm,Int.mul_left_comm]
theorem BH {t b u d:Int}(hb:1<=b)(hd:1<=d)(h1:Int.gcd t b=1)(h2:Int.gcd u d=1) :
  fr (t * d+u * b) (b * d)=((t * d.fdiv (ig b d)+u * b.fdiv (ig b d)).fdiv (ig (t * d.fdiv (ig b d)+u * b.fdiv (ig b d)) (ig b d)),b.fdiv (ig b d) * d.fdiv (ig (t * d.fdiv (ig b d)+u * b.fdiv (ig b d)) (ig b d))):=by
 have JI:b≠0:=by omega
 have Gw:d≠0:=by omega
 have ps:1<=ig b d:=by have:=eW (t:=b) Gw;show(1:Int)<=((Int.gcd b d:Nat):Int);omega
 have eb:=aZ (u6 b d)
 have ed:=aZ (mF b d)
 have ON:=rE (a:=b) Gw
 have db:b.fdiv (ig b d) ∣ b:=⟨_,eb.symm⟩
 have dd:d.fdiv (ig b d) ∣ d:=⟨_,ed.symm⟩
 have pb:=jd (u6 b d) hb ps
 have pd:=jd (mF b d) hd ps
 have Rb:=l_ h1 (Int.dvd_refl t) db
 have Ra:=l_ h2 (Int.dvd_refl u) dd
 generalize b.fdiv (ig b d)=b' at *
 generalize Hv:d.fdiv (ig b d)=d' at *
 generalize ig b d=s at *
 generalize hT:t * d'+u * b'=T at *
 have s0:s≠0:=by omega
 have pg:1<=ig T s:=by have:=eW (t:=T) s0;show(1:Int)<=((Int.gcd T s:Nat):Int);omega
 have eT:=aZ (u6 T s)
 have es:=aZ (mF T s)
 have cTs:=rE (a:=T) s0
 have RD:=jd (mF T s) ps pg
 have dT:T.fdiv (ig T s) ∣ T:=⟨_,eT.symm⟩
 have dg:d.fdiv (ig T s)=d' * s.fdiv (ig T s):=by
  have e:d=d' * s.fdiv (ig T s) * ig T s:=by rw[Int.mul_assoc,es,ed]
  have g0:ig T s≠0:=by omega
  have e2:d.fdiv (ig T s) * ig T s=d' * s.fdiv (ig T s) * ig T s:=by
   rw[aZ (⟨_,by rw[Int.mul_comm];exact e⟩:ig T s ∣ d)]
   exact e
  exact Int.eq_of_mul_eq_mul_right g0 e2
 have coT1:Int.gcd T b'=1:=by
  have q:Int.gcd (t * d') b'=1:=oI Rb (by rw[Int.gcd_comm];exact ON)
  rw[<-hT]
  rw[<-q]
  exact Int.gcd_add_mul_right_left ..
 have coT2:Int.gcd T d'=1:=by
  have q:Int.gcd (u * b') d'=1:=oI Ra ON
  rw[<-hT,Int.add_comm,<-q]
  exact Int.gcd_add_mul_right_left ..
 rw[dg]
 refine rm (Int.mul_ne_zero JI Gw) ?_ ?_ ?_
 ·have:=Int.mul_pos (show 0 < d' by omega) (show 0 < s.fdiv (ig T s) by omega)
  have:=Int.mul_pos (show 0 < b' by omega) this
  omega
 ·exact lg (l_ coT1 dT (Int.dvd_refl _)) (lg (l_ coT2 dT (Int.dvd_refl _)) cTs)
 ·generalize s.fdiv (ig T s)=k at *
  generalize T.fdiv (ig T s)=T' at *
  generalize ig T s=g at *
  have eN:t * d+u * b=T' * g * s:=by
   rw[eT,<-hT,<-ed,<-eb,Int.add_mul,<-Int.mul_assoc,<-Int.mul_assoc]
  rw[eN,<-ed,<-eb,<-es]
  simp only[Int.mul_assoc,Int.mul_comm,Int.mul_left_comm]
end Ro
namespace Ro
open PySem L2 Mm
def fq (q:Rat):AV:=.tup [.int q.num,.int q.den]
theorem kG (q:Rat):Int.gcd q.num (q.den:Int)=1:=q.reduced
theorem hX (q:Rat):(1:Int)<=(q.den:Int):=by have:=q.den_pos;omega
theorem lX {t b:Int}(h:b≠0):fr t b=((Rat.divInt t b).num,((Rat.divInt t b).den:Int)):=by
 refine rm h (hX _) (kG _) ?_
 have e:=Rat.num_divInt_den (Rat.divInt t b)
 have:=(Rat.divInt_eq_divInt_iff (by have:=(Rat.divInt t b).den_pos;omega) h).mp e
 exact this
theorem nc (p q:Rat):p+q=Rat.divInt (p.num * q.den+q.num * p.den) (p.den * q.den):=by
 have h1:(p.den:Int)≠0:=by have:=p.den_pos;omega
 have h2:(q.den:Int)≠0:=by have:=q.den_pos;omega
 rw[<-Rat.divInt_add_divInt _ _ h1 h2,Rat.num_divInt_den,Rat.num_divInt_den]
theorem GJ (p q:Rat):fr (p.num * q.den+q.num * p.den) (p.den * q.den)=((p+q).num,((p+q).den:Int)):=by
 have h1:(p.den:Int)≠0:=by have:=p.den_pos;omega
 have h2:(q.den:Int)≠0:=by have:=q.den_pos;omega
 rw[lX (Int.mul_ne_zero h1 h2),nc]
structure Sz (n:Nat)(q:Rat):Prop where
 a:bw n q.num
 b:bw n (q.den:Int)
theorem Sz.mono {n m:Nat}{q:Rat}(h:Sz n q)(k:n<=m):Sz m q:=⟨h.a.mono k,h.b.mono k⟩
theorem Ar {t b:Int}{n:Nat}(h:b≠0)(ft:bw n t)(fb:bw n b):Sz n (Rat.divInt t b):=by
 have e:=lX (t:=t) h
 have e1:(fr t b).1=(Rat.divInt t b).num:=by rw[e]
 have e2:(fr t b).2=((Rat.divInt t b).den:Int):=by rw[e]
 have g:=GC (t:=t) h
 refine⟨?_,?_⟩
 ·rw[<-e1]
  have h1:=GH t b
  refine ft.le ?_
  have:t.natAbs=(fr t b).1.natAbs * (jX t b).natAbs:=by rw[<-Int.natAbs_mul,h1]
  rw[this]
  exact Nat.le_mul_of_pos_right _ (by omega)
 ·rw[<-e2]
  have h1:=CN t b
  refine fb.le ?_
  have:b.natAbs=(fr t b).2.natAbs * (jX t b).natAbs:=by rw[<-Int.natAbs_mul,h1]
  rw[this]
  exact Nat.le_mul_of_pos_right _ (by omega)
theorem Sz.add {n m:Nat}{p q:Rat}(h:Sz n p)(k:Sz m q):Sz (n+m+1) (p+q):=by
 have h1:(p.den:Int)≠0:=by have:=p.den_pos;omega
 have h2:(q.den:Int)≠0:=by have:=q.den_pos;omega
 rw[nc]
 refine Ar (Int.mul_ne_zero h1 h2) ?_ ((h.b.mul k.b).mono (by omega))
 exact(h.a.mul k.b).add ((k.a.mul h.b).mono (by omega))
theorem Sz.neg {n:Nat}{p:Rat}(h:Sz n p):Sz n (-p):=⟨by rw[Rat.neg_num];exact h.a.neg,h.b⟩
theorem a5 {n:Nat}{i:Int}(h:bw n i)(k:n<=60000000):rZ i:=⟨h.mono k⟩
theorem ij {n:Nat}{i:Int}(h:bw n i)(k:n<=9000):C_ i:=⟨h.mono k⟩
theorem rn {x y:Int}(hx:0<=x)(hy:0 < y):0<=x.fmod y/\x.fmod y < y:=by
 rw[Int.fmod_eq_emod_of_nonneg _ (by omega)]
 exact⟨Int.emod_nonneg _ (by omega),Int.emod_lt_of_pos _ hy⟩
theorem qW {x y:Int}(hy:0 < y):ig y (x.fmod y)=ig x y:=by
 rw[Int.fmod_eq_emod_of_nonneg _ (by omega)]
 show((Int.gcd y (x % y):Nat):Int)=((Int.gcd x y:Nat):Int)
 congr 1
 rw[Int.gcd_comm]
 have h1:=Int.emod_def x y
 rw[h1,Int.gcd_sub_mul_left_left]
theorem tM:∀ (n:Nat)(x y:Int)(s:S),0<=x->0<=y->y.natAbs < n->
  uo (cB (af cY (mv 1) (mc (.int 0)))) (fC 0 1 (aa (mv 1) (aa (af cR (mv 0) (mv 1)) ah))) n [some (.int x),some (.int y)] s=.nx [some (.int (ig x y)),some (.int 0)] s
 | 0,_,_,_,_,_,h=>absurd h (Nat.not_lt_zero _)
 | n+1,x,y,s,hx,hy,h=>by
  unfold uo
  have e:cB (af cY (mv 1) (mc (.int 0))) [some (.int x),some (.int y)] s=.ok (!decide (y=0)) s:=rfl
  rw[e,jg]
  by_cases h0:y=0
  ·subst h0
   rw[if_neg (by simp)]
   rw[show ig x 0=x by show((Int.gcd x 0:Nat):Int)=x;rw[Int.gcd_zero_right];omega]
  ·have A0:0 < y:=by omega
   obtain⟨m1,m2⟩:=rn hx A0
   rw[if_pos (by simpa using h0)]
   have e2:fC 0 1 (aa (mv 1) (aa (af cR (mv 0) (mv 1)) ah)) [some (.int x),some (.int y)] s=.nx [some (.int y),some (.int (x.fmod y))] s:=by
    have e3:cR (.int x) (.int y) s=.ok (.int (x.fmod y)) s:=if_pos h0
    show((cR (.int x) (.int y) s).bind _ |>.bind _).dw _=_
    rw[e3];rfl
   rw[e2]
   show uo _ _ n _ s=_
   rw[tM n y (x.fmod y) s hy m1 (by omega),qW A0]
theorem Aa (a b:Int):ig (if a < 0 then -a else a) (if b < 0 then -b else b)=ig a b:=by
 show((Int.gcd _ _:Nat):Int)=((Int.gcd a b:Nat):Int)
 congr 1
 split<;>split<;>simp[Int.gcd_neg,Int.neg_gcd]
theorem Am (a b:Int)(s:S):aS [.int a,.int b] s=.ok (.int (ig a b)) s:=by
 apply R.wp.eq
 unfold aS dI
 have e:∀ x y:Int,DF [some (AV.int x),some (AV.int y)]=y.natAbs+1:=λ _ _=>rfl
 simp only[↓WS,↓WE,↓WV,Lq,bR,UU,Nat.reduceSub,↓reduceIte,↓uw,e]
 rw[yv (tM _ _ _ s (by split<;>omega) (by split<;>omega) (Nat.lt_succ_self _)),Aa]
 walk_at "w"
theorem CQ {i j:Int}{s:S}(h:j≠0)(k:C_ j):di (.int i) (.int j) s=.ok (.int (i.fdiv j)) s:=if_pos ⟨h,k⟩
theorem ie {i j:Int}{s:S}(h:rZ i)(k:rZ j):bf (.int i) (.int j) s=.ok (.int (i * j)) s:=if_pos ⟨h,k⟩
theorem wA {a b:Int}(h:b≠0):ig a b≠0:=by have:=eW (t:=a) h;show((Int.gcd a b:Nat):Int)≠0;omega
theorem k7 {a b:Int}{n:Nat}(h:b≠0)(f:bw n b):bw n (ig a b):=f.le (by
 show((Int.gcd a b:Nat):Int).natAbs<=_
 rw[Int.natAbs_natCast]
 exact Nat.le_of_dvd (by omega) (Int.gcd_dvd_natAbs_right a b))
theorem oC {a g:Int}{n:Nat}(h:g ∣ a)(h0:g≠0)(f:bw n a):bw n (a.fdiv g):=f.le (by
 have e:=aZ h
 have:a.natAbs=(a.fdiv g).natAbs * g.natAbs:=by rw[<-Int.natAbs_mul,e]
 rw[this]
 exact Nat.le_mul_of_pos_right _ (by omega))
theorem rq (q:Rat):(q.den:Int)≠0:=by have:=q.den_pos;omega
theorem vS {p q:Rat}{n:Nat}(hn:n<=9000)(h:Sz n p)(k:Sz n q)(s:S):jZ [fq p,fq q] s=.ok (fq (p+q)) s:=by
 have e:=(BH (hX p) (hX q) (kG p) (kG q)).symm.trans (GJ p q)
 have e1:=congrArg Prod.fst e
 have e2:=congrArg Prod.snd e
 dsimp only at e1 e2
 have g1:ig (p.den:Int) (q.den:Int)≠0:=wA (rq q)
 have f1:bw n (ig (p.den:Int) (q.den:Int)):=k7 (rq q) k.b
 have fd:=oC (mF (p.den:Int) (q.den:Int)) g1 k.b
 have fb:=oC (u6 (p.den:Int) (q.den:Int)) g1 h.b
 have g2:ig (p.num * (q.den:Int).fdiv (ig (p.den:Int) (q.den:Int))+q.num * (p.den:Int).fdiv (ig (p.den:Int) (q.den:Int))) (ig (p.den:Int) (q.den:Int))≠0:=wA g1
 have f2:bw n (ig (p.num * (q.den:Int).fdiv (ig (p.den:Int) (q.den:Int))+q.num * (p.den:Int).fdiv (ig (p.den:Int) (q.den:Int))) (ig (p.den:Int) (q.den:Int))):=k7 g1 f1
 have OD:rZ ((p.den:Int).fdiv (ig (p.den:Int) (q.den:Int))):=a5 fb (by omega)
 have d1:ig (p.num * (q.den:Int).fdiv (ig (p.den:Int) (q.den:Int))+q.num * (p.den:Int).fdiv (ig (p.den:Int) (q.den:Int))) (ig (p.den:Int) (q.den:Int)) ∣ (q.den:Int):=Int.dvd_trans (mF _ _) (mF _ _)
 have QX:rZ ((q.den:Int).fdiv (ig (p.num * (q.den:Int).fdiv (ig (p.den:Int) (q.den:Int))+q.num * (p.den:Int).fdiv (ig (p.den:Int) (q.den:Int))) (ig (p.den:Int) (q.den:Int)))):=a5 (oC d1 g2 k.b) (by omega)
 apply R.wp.eq
 unfold jZ vo fq
 simp only[↓WS,↓WE,↓WV,Lq,bR,UU,Nat.reduceSub,↓reduceIte,↓dJ (Am _ _ _)]
 refine⟨⟨g1,ij f1 (by omega)⟩,⟨a5 h.a (by omega),a5 fd (by omega)⟩,⟨g1,ij f1 (by omega)⟩,⟨a5 k.a (by omega),OD⟩,⟨g2,ij f2 (by omega)⟩,⟨g1,ij f1 (by omega)⟩,⟨g2,ij f2 (by omega)⟩,⟨OD,QX⟩,?_⟩
 rw[e1,e2]
theorem neg_den (q:Rat):(-q).den=q.den:=rfl
theorem yE {p q:Rat}{n:Nat}(hn:n<=9000)(h:Sz n p)(k:Sz n q)(s:S):bS [fq p,fq q] s=.ok (fq (q - p)) s:=by
 have e:=vS hn k h.neg s
 have e2:q+-p=q - p:=by grind
 rw[e2]at e
 apply R.wp.eq
 unfold bS iE
 unfold fq at e ⊢
 rw[Rat.neg_num,neg_den]at e
 simp only[↓WS,↓WE,↓WV,Lq,bR,UU,Nat.reduceSub,↓reduceIte,↓dJ e]
def cG:List Rat->Rat
 | []=>0
 | q :: r=>q+cG r
theorem xQ:c8=fq 0:=rfl
def qw (n:Nat):Rat->List Rat->Prop
 | a,[]=>Sz n a
 | a,q :: r=>Sz n a/\Sz n q/\qw n (a+q) r
inductive C6 (s:S):AV->List AV->Gd->Prop
 | tup (xs:List AV):C6 s (.tup xs) xs []
 | ref {i:Nat}{xs:List AV}(h:aq s i=some xs):C6 s (.ref i) xs [(i,xs)]
theorem C6.ok {s:S}{v:AV}{xs:List AV}{gs:Gd}(h:C6 s v xs gs):mG gs s:=by
 cases h with
 | tup=>intro p hp;cases hp
 | ref h=>intro p hp;cases hp with
  | head=>exact h
  | tail _ hp=>cases hp
theorem C6.src {s:S}{v:AV}{xs:List AV}{gs:Gd}(h:C6 s v xs gs):yA v s=.ok (xs,gs) s:=by
 cases h with
 | tup=>rfl
 | ref h=>show need (aq s _) _=_;rw[h];rfl
theorem yH {n:Nat}(hn:n<=9000){s:S}{v:AV}{l:List Rat}{gs:Gd}(w:C6 s v (l.map fq) gs) (h:qw n 0 l):cC [v] s=.ok (fq (cG l)) s:=by
 apply R.wp.eq
 unfold cC oQ
 simp only[↓WS,↓WE,↓WV,Lq,bR,UU,Nat.reduceSub,↓reduceIte,xQ,↓dJ w.src]
 refine jY (λ xs env st=>st=s/\∃ a r x,xs=r.map fq/\env=[some v,some (fq a),x]/\qw n a r/\a+cG r=cG l) ?_ ?_ ?_ _ _ _ ⟨rfl,0,l,none,rfl,rfl,h,Rat.zero_add _⟩
 ·rintro _ _ st ⟨rfl,_⟩;exact w.ok
 ·rintro env st ⟨rfl,a,r,x,e,rfl,h1,h2⟩
  cases r with
  | cons=>cases e
  | nil=>
   walk_at "w"
   rw[<-h2,show a+cG []=a from Rat.add_zero a]
 ·rintro y r env st ⟨rfl,a,r',x,e,rfl,h1,h2⟩
  cases r' with
  | nil=>cases e
  | cons q r'=>
   cases e
   simp only[↓WS,↓WE,↓WV,Lq,bR,UU,Nat.reduceSub,↓reduceIte,↓dJ (vS hn h1.1 h1.2.1 _)]
   exact⟨a+q,r',_,rfl,rfl,h1.2.2,by rw[<-h2];show a+q+cG r'=a+(q+cG r');grind⟩
inductive Rw where
 | of (n:Str) (q:Rat)|steps (n:Str) (us:List (Int × Rat)) (z:Rat)|left (n:Str) (q:Rat)|len (n:Str) (k:Int)
def HR (u:Int)(z:Rat):List (Int × Rat)->Rat
 | []=>z
 | p :: r=>if u < p.1 then p.2 else HR u z r
def km (u:Int):List Rw->List (Str × Rat)
 | []=>[]
 | .of n q :: r=>(n,q) :: km u r
 | .steps n us z :: r=>(n,HR u z us) :: km u r
 | .left _ _ :: r=>km u r
 | .len _ _ :: r=>km u r
theorem v_ (s:S)(xs:List AV):aq (s++[.lst xs]) s.length=some xs:=by
 unfold aq;simp
end Ro
namespace Mm
open PySem L2
mutual
theorem AV.low.mono {b c:Nat}(h:b<=c):∀ {v:AV},v.low b=true->v.low c=true
 | .ref i,k=>by simp only[AV.low,decide_eq_true_eq]at k ⊢;omega
 | .tup xs,k=>by simp only[AV.low]at k ⊢;exact bx.mono h k
 | .sq xs,k=>by simp only[AV.low]at k ⊢;exact bx.mono h k
 | .aY,_=>by simp only[AV.low]
 | .bl _,_=>by simp only[AV.low]
 | .int _,_=>by simp only[AV.low]
 | .str _,_=>by simp only[AV.low]
theorem bx.mono {b c:Nat}(h:b<=c):∀ {l:List AV},bx b l=true->bx c l=true
 | [],_=>by simp only[bx]
 | v :: r,k=>by
  simp only[bx,Bool.and_eq_true]at k ⊢
  exact⟨AV.low.mono h k.1,bx.mono h k.2⟩
end
theorem AO.low.mono {b c:Nat}(h:b<=c){o:AO}(k:o.low b=true):o.low c=true:=by
 cases o<;>first|exact bx.mono h k|rfl
def Cl (s:S):Prop:=s.all (AO.low s.length)=true
theorem Cl.add {s e:S}(h:Cl s)(k:e.all (AO.low (s.length+e.length))=true):Cl (s++e):=by
 unfold Cl at *
 rw[List.all_append,List.length_append,k,Bool.and_true]
 rw[List.all_eq_true]at h ⊢
 exact λ o ho=>AO.low.mono (by omega) (h o ho)
theorem Cl.set {s:S}{i:Nat}{o:AO}(h:Cl s)(k:o.low s.length=true):Cl (s.set i o):=by
 unfold Cl at *
 rw[List.length_set]
 rw[List.all_eq_true]at h ⊢
 intro x hx
 rcases List.mem_or_eq_of_mem_set hx with hx|rfl
 ·exact h x hx
 ·exact k
end Mm
namespace Ro
open PySem L2 Mm
end Ro
namespace Mm
open PySem L2
end Mm
namespace Ro
open PySem L2 Mm
theorem JW (s:S)(p q:Rat):mK s (fq p) (fq q)=some (decide (p=q)):=by
 have e1:∀ p:Rat,toD 20 s (fq p)=some (.tup [.int p.num,.int p.den]):=λ p=>by simp[fq,toD]
 unfold mK
 simp only[fq]
 have ur:=e1 p
 have GU:=e1 q
 unfold fq at ur GU
 rw[ur,GU]
 dsimp only
 rw[if_pos (show dH [Dt.int p.num,Dt.int p.den]<=20 by simp[dH,Dt.dep])]
 simp only[dv,cN]
 congr 1
 by_cases h:p=q
 ·subst h;simp
 ·rw[decide_eq_false h]
  cases h1:(p.num == q.num)<;>cases h2:((p.den:Int) == (q.den:Int))<;>try rfl
  have h3:(p.den:Int)=q.den:=by simpa using h2
  exact(h (Rat.ext (by simpa using h1) (by omega))).elim
theorem sY (A B C:Option AV):∀ (n:Nat) (x y:Int) (s:S),0<=x->0<=y->y.natAbs < n->
  uo (cB (af jQ (mv 4) (mc (.int 0)))) (fC 3 4 (aa (mv 4) (aa (af cR (mv 3) (mv 4)) ah))) n [A,B,C,some (.int x),some (.int y)] s=.nx [A,B,C,some (.int (ig x y)),some (.int 0)] s
 | 0,_,_,_,_,_,h=>absurd h (Nat.not_lt_zero _)
 | n+1,x,y,s,hx,hy,h=>by
  unfold uo
  have e:cB (af jQ (mv 4) (mc (.int 0))) [A,B,C,some (.int x),some (.int y)] s=.ok (decide (0 < y)) s:=rfl
  rw[e,jg]
  by_cases h0:y=0
  ·subst h0
   rw[if_neg (by simp)]
   rw[show ig x 0=x by show((Int.gcd x 0:Nat):Int)=x;rw[Int.gcd_zero_right];omega]
  ·have A0:0 < y:=by omega
   obtain⟨m1,m2⟩:=rn hx A0
   rw[if_pos (by simpa using A0)]
   have e2:fC 3 4 (aa (mv 4) (aa (af cR (mv 3) (mv 4)) ah)) [A,B,C,some (.int x),some (.int y)] s=.nx [A,B,C,some (.int y),some (.int (x.fmod y))] s:=by
    have e3:cR (.int x) (.int y) s=.ok (.int (x.fmod y)) s:=if_pos h0
    show((cR (.int x) (.int y) s).bind _ |>.bind _).dw _=_
    rw[e3];rfl
   rw[e2]
   show uo _ _ n _ s=_
   rw[sY A B C n y (x.fmod y) s hy m1 (by omega),qW A0]
theorem Ap (A B C X:Option AV)(y:Int):DD [A,B,C,X,some (.int y)]=y.natAbs+1:=rfl
theorem pR {a b:Int}(s:S)(h:b≠0)(fb:bw 9000 b)(fa:bw 60000000 a):eX [.int a,.int b] s=.ok (fq (Rat.divInt a b)) s:=by
 have e:=(FP a b h).trans (lX (t:=a) h)
 have e1:((if b < 0 then -1 else 1) * a).fdiv (ig a b)=(Rat.divInt a b).num:=congrArg Prod.fst e
 have e2:((if b < 0 then -1 else 1) * b).fdiv (ig a b)=((Rat.divInt a b).den:Int):=congrArg Prod.snd e
 have g:=wA (a:=a) h
 have fg:C_ (ig a b):=ij (k7 h fb) (Nat.le_refl _)
 have bs:∀ c:Prop,[Decidable c]->rZ (if c then -1 else 1):=λ c _=>by
  split
  ·exact a5 (n:=1) (by show(-1:Int).natAbs < 2 ^ 1;decide) (by decide)
  ·exact a5 (n:=1) (by show(1:Int).natAbs < 2 ^ 1;decide) (by decide)
 have bb:rZ b:=⟨fb.mono (by decide)⟩
 have ba:rZ a:=⟨fa⟩
 apply R.wp.eq
 unfold eX jJ
 simp only[↓WS,↓WE,↓WV,Lq,bR,UU,Nat.reduceSub,↓reduceIte,↓uw,Ap]
 rw[yv (sY _ _ _ _ _ _ s (by split<;>omega) (by split<;>omega) (Nat.lt_succ_self _)),Aa]
 walk_at "w"
 by_cases c:b < 0
 ·simp only[c,if_true]at e1 e2 ⊢
  have b1:=bs True
  rw[if_pos trivial]at b1
  refine⟨⟨b1,ba⟩,⟨g,fg⟩,⟨b1,bb⟩,⟨g,fg⟩,?_⟩
  rw[e1,e2];rfl
 ·simp only[c,if_false]at e1 e2 ⊢
  have b1:=bs False
  rw[if_neg (λ z=>z)]at b1
  refine⟨⟨b1,ba⟩,⟨g,fg⟩,⟨b1,bb⟩,⟨g,fg⟩,?_⟩
  rw[e1,e2];rfl
theorem Hm {a b c d:Int}{n:Nat}(hn:n<=4400)(s:S)(hb:b≠0)(hd:d≠0)(fa:bw n a)(fb:bw n b)(fc:bw n c)(fd:bw n d):k_ [.tup [.int a,.int b],.tup [.int c,.int d]] s=.ok (fq (Rat.divInt a b * Rat.divInt c d)) s:=by
 have e:=pR (a:=a * c) (b:=b * d) s (Int.mul_ne_zero hb hd) ((fb.mul fd).mono (by omega)) ((fa.mul fc).mono (by omega))
 apply R.wp.eq
 unfold k_ lj
 simp only[↓WS,↓WE,↓WV,Lq,bR,UU,Nat.reduceSub,↓reduceIte,↓dJ e]
 refine⟨⟨a5 fa (by omega),a5 fc (by omega)⟩,⟨a5 fb (by omega),a5 fd (by omega)⟩,?_⟩
 rw[Rat.divInt_mul_divInt]
theorem v9 {n:Nat}(hn:n<=4400){s:S}{v:AV}{l:List Rat}{gs:Gd}(w:C6 s v (l.map fq) gs) (h:qw n 0 l):dG [v] s=.ok (fq (cG l)) s:=by
 apply R.wp.eq
 unfold dG oR
 simp only[↓WS,↓WE,↓WV,Lq,bR,UU,Nat.reduceSub,↓reduceIte,↓dJ w.src]
 refine jY (λ xs env st=>st=s/\∃ a r x y,xs=r.map fq/\env=[some v,some (.int (Rat.num a)),some (.int a.den),x,y]/\qw n a r/\a+cG r=cG l) ?_ ?_ ?_ _ _ _ ⟨rfl,0,l,none,none,rfl,rfl,h,Rat.zero_add _⟩
 ·rintro _ _ st ⟨rfl,_⟩;exact w.ok
 ·rintro env st ⟨rfl,a,r,x,y,e,rfl,h1,h2⟩
  cases r with
  | cons=>cases e
  | nil=>
   walk_at "w"
   rw[<-h2,show a+cG []=a from Rat.add_zero a];rfl
 ·rintro y r env st ⟨rfl,a,r',x,y,e,rfl,h1,h2⟩
  cases r' with
  | nil=>cases e
  | cons q r'=>
   cases e
   obtain⟨k1,k2,k3⟩:=h1
   have e:=pR (a:=a.num * q.den+q.num * a.den) (b:=a.den * q.den) st (Int.mul_ne_zero (rq a) (rq q)) ((k1.b.mul k2.b).mono (by omega)) (((k1.a.mul k2.b).add (k2.a.mul k1.b)).mono (by omega))
   rw[<-nc]at e
   rw[show fq q=.tup [.int q.num,.int q.den] from rfl]
   simp only[↓WS,↓WE,↓WV,Lq,bR,UU,Nat.reduceSub,↓reduceIte,↓dJ e]
   refine⟨⟨a5 k1.a (by omega),a5 k2.b (by omega)⟩,⟨a5 k2.a (by omega),a5 k1.b (by omega)⟩,⟨a5 k1.b (by omega),a5 k2.b (by omega)⟩,?_⟩
   rw[show fq (a+q)=.tup [.int (a+q).num,.int (a+q).den] from rfl]
   walk_at "w"
   exact⟨a+q,r',_,_,rfl,rfl,k3,by rw[<-h2];show a+q+cG r'=a+(q+cG r');grind⟩
end Ro
namespace Mm
open PySem L2
theorem yx (a:Mt)(r:xg)(v:AV)(w:List AV)(env:En)(s:S)(N:En->S->Prop)(T:AV->S->Prop):(aw a r (v :: w) env s).wp N T=(a v env s).wp (λ e s1=>(r w e s1).wp N T) T:=by
 show(match a v env s with|.nx e s1=>r w e s1|q=>q).wp N _=_
 cases a v env s<;>rfl
theorem se (o i:Ev)(v:AV)(env:En)(s:S)(N:En->S->Prop)(T:AV->S->Prop):(dO o i v env s).wp N T=(o env s).wp λ a s1=>(i env s1).wp λ b s2=>(match a,b with
 | .ref k,.int j=>match aq s2 k with
  | some xs=>match qQ xs.length j with
   | some n=>RS.nx env (s2.set k (.lst (xs.set n v)))
   | none=>.bad
  | none=>.bad
 | _,_=>.bad).wp N T:=by
 unfold dO;rw[cW];congr 1;funext a s1;rw[cW]
 try rfl
end Mm
namespace Ro
open PySem L2 Mm
theorem Jd:¬ ((.inr "cells":Key)=.inr "turn"):=λ z=>PR (Sum.inr.inj z)
def tU (c:Nat)(t:Int):List (Key × AV):=[(.inr "cells",.ref c),(.inr "turn",.int t)]
theorem AE (c:Nat)(t:Int):hR (tU c t) (.inr "cells")=some (.ref c):=if_pos rfl
theorem CU (c:Nat)(t:Int):hR (tU c t) (.inr "turn")=some (.int t):=by
 unfold tU hR
 rw[if_neg Jd]
 exact if_pos rfl
theorem GV (c:Nat)(t u:Int):kH (tU c t) (.inr "turn") (.int u)=tU c u:=by
 unfold kH tU
 rw[if_pos (by simp)]
 simp only[List.map_cons,List.map_nil,if_neg Jd,if_true]
structure Dr (c d n:Nat)(s:S):Prop where
 ex:∃ (t:Int) (cells:List Int),s[d]? = some (.dK (tU c t))/\s[c]? = some (.lst (cells.map AV.int))/\cells≠[]/\0<=t/\t<=n
 cl:Cl s
structure Kp (c d:Nat)(s s':S):Prop where
 len:s'.length=s.length
 get:∀ i,i≠c->i≠d->s'[i]? = s[i]?
theorem Kp.refl (c d:Nat)(s:S):Kp c d s s:=⟨rfl,λ _ _ _=>rfl⟩
theorem Kp.trans {c d:Nat}{s s' yQ:S}(h:Kp c d s s')(k:Kp c d s' yQ):Kp c d s yQ:=⟨k.len.trans h.len,λ i h1 h2=>(k.get i h1 h2).trans (h.get i h1 h2)⟩
theorem Dr.mono {c d n m:Nat}{s:S}(h:Dr c d n s)(k:n<=m):Dr c d m s:=by
 obtain⟨⟨t,cells,h1,h2,h3,h4,h5⟩,cl⟩:=h
 exact⟨⟨t,cells,h1,h2,h3,h4,by omega⟩,cl⟩
theorem Dr.ne {c d n:Nat}{s:S}(h:Dr c d n s):c≠d:=by
 obtain⟨⟨t,cells,h1,h2,_⟩,_⟩:=h
 rintro rfl
 rw[h1]at h2;cases h2
theorem Dr.v8 {c d n:Nat}{s:S}(h:Dr c d n s):c < s.length:=by
 obtain⟨⟨t,cells,h1,h2,_⟩,_⟩:=h
 exact(List.getElem?_eq_some_iff.mp h2).1
theorem Dr.v7 {c d n:Nat}{s:S}(h:Dr c d n s):d < s.length:=by
 obtain⟨⟨t,cells,h1,h2,_⟩,_⟩:=h
 exact(List.getElem?_eq_some_iff.mp h1).1
theorem Dr.app {c d n:Nat}{s e:S}(h:Dr c d n s)(k:Cl (s++e)):Dr c d n (s++e):=by
 have l1:=h.v8
 have l2:=h.v7
 obtain⟨⟨t,cells,h1,h2,h3⟩,cl⟩:=h
 exact⟨⟨t,cells,by rw[List.getElem?_append_left l2];exact h1,by rw[List.getElem?_append_left l1];exact h2,h3⟩,k⟩
theorem Dr.set {c d n i:Nat}{s:S}{o:AO}(h:Dr c d n s)(h1:i≠c)(h2:i≠d)(k:o.low s.length=true):Dr c d n (s.set i o):=by
 obtain⟨⟨t,cells,k1,k2,k3⟩,cl⟩:=h
 exact⟨⟨t,cells,by rw[List.getElem?_set_ne h2];exact k1,by rw[List.getElem?_set_ne h1];exact k2,k3⟩,cl.set k⟩
theorem low_ints (b:Nat):∀ l:List Int,bx b (l.map AV.int)=true
 | []=>by simp[bx]
 | i :: r=>by simp only[List.map_cons,bx,low_ints b r];simp[AV.low]
theorem CO {x m:Int}(h:0 < m)(k:m<=2147483648):bw 31 (x.fmod m):=by
 have h1:=Int.fmod_nonneg_of_pos x h
 have h2:=Int.fmod_lt_of_pos x h
 exact qg (by omega) (by omega)
theorem cA {n:Nat}{i:Int}(h:0<=i)(k:i < 2 ^ n):bw n i:=qg (by omega) k
theorem bp {c d n:Nat}{s:S}(D:Dr c d n s)(hn:n<=1000000000){k:Int}(hk:0 < k)(fk:bw 9000 k) :
  (ar [.ref d,.int k] s).wp λ v s'=>∃ r,v=.int r/\0<=r/\r < k/\Dr c d (n+1) s'/\Kp c d s s':=by
 have lc:=D.v8
 have ld:=D.v7
 have ne:=D.ne
 obtain⟨⟨t,cells,h1,h2,h3,h4,h5⟩,cl⟩:=D
 have e0:oG s d=some (tU c t):=by unfold oG;rw[h1]
 have g1:iW (.ref d) (.str "turn") s=.ok (.int t) s:=by
  show(need (oG s d) λ kvs=>need (ip (.str "turn")) λ k=>need (hR kvs k) λ v=>R.ok v s)=_
  rw[e0,aG]
  rw[show ip (.str "turn")=some (.inr "turn") from rfl,aG,CU];rfl
 let s1:=s.set d (.dK (tU c (t+1)))
 have p1:∀ env,putD (.int (t+1)) (.ref d) (.str "turn") env s=.nx env s1:=λ env=>by
  show(match oG s d,ip (.str "turn") with
   | some kvs,some k=>if kvs.length < sizeLine then RS.nx env (s.set d (.dK (kH kvs k (.int (t+1))))) else .bad
   | _,_=>.bad)=_
  rw[e0]
  show(if (tU c t).length < sizeLine then RS.nx env (s.set d (.dK (kH (tU c t) (.inr "turn") (.int (t+1))))) else .bad)=_
  rw[if_pos (a4 (by show(2:Nat)<=1000;omega)),GV]
 have e1:s1[d]? = some (.dK (tU c (t+1))):=List.getElem?_set_self ld
 have e2:s1[c]? = some (.lst (cells.map AV.int)):=by show(s.set d _)[c]? = _;rw[List.getElem?_set_ne (Ne.symm ne)];exact h2
 have l1:aq s1 c=some (cells.map AV.int):=c7 e2
 have OM:Cl s1:=cl.set (by simp[AO.low,tU,bx,AV.low,lc])
 have Ku:Kp c d s s1:=⟨List.length_set,λ i _ hi=>List.getElem?_set_ne (Ne.symm hi)⟩
 have g2:iW (.ref d) (.str "cells") s1=.ok (.ref c) s1:=by
  show(need (oG s1 d) λ kvs=>need (ip (.str "cells")) λ k=>need (hR kvs k) λ v=>R.ok v s1)=_
  rw[show oG s1 d=some (tU c (t+1)) by unfold oG;rw[e1],aG]
  rw[show ip (.str "cells")=some (.inr "cells") from rfl,aG,AE];rfl
 have Jw:0 < cells.length:=List.length_pos_iff.mpr h3
 have lenE:dq [.ref c] s1=.ok (.int cells.length) s1:=by
  show(need (aq s1 c) λ xs=>R.ok (AV.int xs.length) s1)=_
  rw[l1,aG,List.length_map]
 have p_:(0:Int) < cells.length:=by omega
 have j0:=Int.fmod_nonneg_of_pos (t+1) p_
 have j1:=Int.fmod_lt_of_pos (t+1) p_
 obtain⟨j,ej⟩:∃ j:Nat,(t+1).fmod cells.length=j:=⟨((t+1).fmod cells.length).toNat,by omega⟩
 have hj:j < cells.length:=by omega
 have ix:gS (cells.map AV.int) (j:Int)=some (.int cells[j]):=e7 (by rw[List.getElem?_map,List.getElem?_eq_getElem hj];rfl)
 have PY:qQ (cells.map AV.int).length (j:Int)=some j:=by
  unfold qQ
  rw[List.length_map,if_pos (by omega),if_pos (by omega)];rfl
 unfold ar jl
 have gE:ai (.ref c) (.int j) s1=.ok (.int cells[j]) s1:=by
  show(need (aq s1 c) λ xs=>need (gS xs j) λ v=>R.ok v s1)=_
  rw[l1,aG,ix];rfl
 have Mq:(10:Int) ^ (18:Int).toNat=1000000000000000000:=LJ
 have T1:bw 31 (t+1):=cA (by omega) (by omega)
 simp only[↓WS,↓WE,↓WV,Lq,bR,UU,Nat.reduceSub,↓reduceIte,↓dJ g1,↓yv (p1 _),↓dJ g2,↓dJ lenE,ej,↓dJ gE,Mq]
 refine⟨by omega,⟨by omega,by omega,by decide⟩,?_⟩
 split
 ·simp only[↓WS,↓WE,↓WV,Lq,bR,UU,Nat.reduceSub,↓reduceIte,↓yx,↓se,↓dJ g2,l1,PY]
  refine⟨⟨hk,⟨fk⟩⟩,_,rfl,Int.emod_nonneg _ (by omega),Int.emod_lt_of_pos _ hk,⟨⟨t+1,cells.set j (cells[j] / k),?_,?_,?_,by omega,by omega⟩,?_⟩,?_⟩
  ·rw[List.getElem?_set_ne ne];exact e1
  ·rw[List.getElem?_set_self (by show c < s1.length;rw[Ku.len];exact lc),List.map_set]
  ·intro z
   have:=congrArg List.length z
   rw[List.length_set,List.length_nil]at this;omega
  ·refine OM.set ?_
   rw[<-List.map_set]
   exact low_ints _ _
  ·exact⟨by rw[List.length_set];exact Ku.len,λ i q1 q2=>by rw[List.getElem?_set_ne (Ne.symm q1)];exact Ku.get i q1 q2⟩
 ·have F1:bw 31 (cells[j].fmod 2147483629):=CO (by omega) (by omega)
  have OO:bw 13 (7919:Int):=cA (by omega) (by omega)
  have Rg:bw 16 (48271:Int):=cA (by omega) (by omega)
  have OP:bw 17 (104729:Int):=cA (by omega) (by omega)
  have Rh:bw 16 (39373:Int):=cA (by omega) (by omega)
  have F2:=T1.mul T1
  have F3:=F2.mul OO
  have F4:bw 76 (cells[j].fmod 2147483629+(t+1) * (t+1) * 7919):=bw.add (n:=75) (F1.mono (by omega)) (F3.mono (by omega))
  have F5:bw 77 (cells[j].fmod 2147483629+(t+1) * (t+1) * 7919+11):=bw.add F4 (cA (by omega) (by omega))
  have F6:∀ x:Int,bw 49 (x.fmod 2147483587+(t+1) * 104729):=λ x=>bw.add (n:=48) ((CO (by omega) (by omega)).mono (by omega)) ((T1.mul OP).mono (by omega))
  have bg:∀ {n:Nat}{i:Int},bw n i->n<=100->rZ i:=λ h k=>a5 h (by omega)
  refine⟨by decide,⟨bg T1 (by omega),bg T1 (by omega)⟩,⟨bg F2 (by omega),bg OO (by omega)⟩,⟨bg F5 (by omega),bg Rg (by omega)⟩,by decide,⟨bg (CO (by omega) (by omega)) (by omega),bg (CO (by omega) (by omega)) (by omega)⟩,by decide,⟨bg T1 (by omega),bg OP (by omega)⟩,⟨bg (F6 _) (by omega),bg Rh (by omega)⟩,by decide,⟨by decide,ij (n:=7) (cA (by omega) (by omega)) (by omega)⟩,by omega,_,rfl,Int.fmod_nonneg_of_pos _ hk,Int.fmod_lt_of_pos _ hk,⟨⟨t+1,cells,e1,e2,h3,by omega,by omega⟩,OM⟩,Ku⟩
theorem Av {s:S}{n:Nat}:∀ {v:AV},wJ v=true->∃ d,toD n s v=some d/\d.dep=0
 | .aY,_=>⟨.aY,by unfold toD;rfl,by simp[Dt.dep]⟩
 | .bl b,_=>⟨.bl b,by unfold toD;rfl,by simp[Dt.dep]⟩
 | .int b,_=>⟨.int b,by unfold toD;rfl,by simp[Dt.dep]⟩
 | .str b,_=>⟨.str b,by unfold toD;rfl,by simp[Dt.dep]⟩
theorem qe {s:S}{n:Nat}:∀ {l:List AV},l.all wJ=true->∃ ds,l.mapM (toD n s)=some ds/\ds.length=l.length/\dH ds=0
 | [],_=>⟨[],rfl,rfl,by simp[dH]⟩
 | v :: r,h=>by
  rw[List.all_cons,Bool.and_eq_true]at h
  obtain⟨d,e1,e2⟩:=Av (s:=s) (n:=n) h.1
  obtain⟨ds,e3,e4,e5⟩:=qe (s:=s) (n:=n) h.2
  exact⟨d :: ds,by rw[List.mapM_cons,e1,e3];rfl,by simp[e4],by simp[dH,e2,e5]⟩
theorem AA {s:S}{i j:Nat}{xs:List AV}(h1:aq s i=some xs)(h2:aq s j=some [])(hf:xs.all wJ=true):mK s (.ref i) (.ref j)=some xs.isEmpty:=by
 obtain⟨ds,e1,e2,e3⟩:=qe (s:=s) (n:=19) hf
 have t1:toD 20 s (.ref i)=some (.lst ds):=by
  simp only[toD,h1,Option.bind_some,e1,Option.map_some]
 have t2:toD 20 s (.ref j)=some (.lst []):=by
  simp only[toD,h2,Option.bind_some,List.mapM_nil];rfl
 unfold mK
 simp only
 rw[t1,t2]
 dsimp only
 rw[if_pos (by omega)]
 congr 1
 cases xs with
 | nil=>cases ds with
  | nil=>simp[dv]
  | cons=>cases e2
 | cons=>cases ds with
  | nil=>cases e2
  | cons=>simp[dv]
theorem qf:∀ l:List Int,(l.map AV.int).all wJ=true
 | []=>rfl
 | i :: r=>by rw[List.map_cons,List.all_cons,qf r];rfl
theorem AN (ns:List Int):(c_ [.sq (ns.map AV.int)] []).wp λ v s'=>∃ c d,v=.ref d/\Dr c d 0 s':=by
 obtain⟨ms,em⟩:∃ ms:List Int,de (ns.map AV.int) none (some 63)=ms.map AV.int:=by
  refine⟨de ns none (some 63),?_⟩
  unfold de;rw[List.length_map,<-List.map_drop,<-List.map_take]
 have e1:BY (.sq (ns.map AV.int)) none (some 63) []=.ok (.ref 0) [.lst (ms.map AV.int)]:=by
  show R.ok _ ([]++[AO.lst (de (ns.map AV.int) none (some 63))])=_
  rw[em];rfl
 have e2:items (.ref 0) [.lst (ms.map AV.int)]=some (ms.map AV.int):=rfl
 have e3:bI (.ref 1) (.ref 2) [.lst (ms.map AV.int),.lst (ms.map AV.int),.lst []]=.ok (.bl (ms.map AV.int).isEmpty) [.lst (ms.map AV.int),.lst (ms.map AV.int),.lst []]:=by
  unfold bI;rw[AA (xs:=ms.map AV.int) rfl rfl (qf ms)];rfl
 have ed:∀ (env:En) (s:S) (k:Nat) (x:Option AV),nW [((mc (.str "cells")),(mv 1)),((mc (.str "turn")),(mc (.int 0)))] [x,some (.ref k)] s=.ok (.ref s.length) (s++[.dK (tU k 0)]):=by
  intro env s k x
  unfold nW yY yY yY
  simp only[mc,mv,dz,Lq,pZ,ip,Option.bind_some,Option.map_some,aG]
  rw[if_pos (by show(2:Nat)<=15;omega)]
  congr 1
 unfold c_ iG
 simp only[↓WS,↓WE,↓WV,Lq,bR,UU,Nat.reduceSub,↓reduceIte,↓dJ e1,e2,d_,List.length_cons,List.length_nil,Nat.reduceAdd,List.cons_append,List.nil_append,↓dJ e3,List.take_succ_cons,List.take_zero,Nat.zero_le,show(1<=sizeLine)=True from eq_true (Bj (by omega))]
 cases ms with
 | nil=>
  simp only[List.map_nil,List.isEmpty_nil,if_true,↓dJ (ed [] _ _ _)]
  refine⟨2,_,rfl,⟨⟨0,[7],rfl,rfl,by simp,by omega,by omega⟩,rfl⟩⟩
 | cons m r=>
  simp only[List.map_cons,List.isEmpty_cons,Bool.false_eq_true,if_false,↓dJ (ed [] _ _ _)]
  refine⟨1,_,rfl,⟨⟨0,m :: r,rfl,rfl,by simp,by omega,by omega⟩,?_⟩⟩
  simp[Cl,AO.low,bx,AV.low,low_ints,tU]
theorem g_ {k:Int}(h:0 < k)(l:k < 1048576):bw 9000 k:=(cA (n:=20) (by omega) (by omega)).mono (by omega)
theorem ki (m:Ev)(env:En)(s:S)(Q:List AV × Gd->S->Prop):(nA (aa m ah) env s).wp Q=(m env s).wp λ v s1=>match v with|.int j=>(-(2 ^ 62)<=j/\j < 2 ^ 62)/\Q (gI 0 j.toNat,[]) s1|_=>False:=by
 unfold nA aa ah
 simp only[wp_bind,sd]
 congr 1
 funext v s1
 cases v<;>first|rfl|exact kj _ _ _
structure Gk (c d:Nat)(s s':S):Prop where
 len:s.length<=s'.length
 get:∀ i,i < s.length->i≠c->i≠d->s'[i]? = s[i]?
theorem Kp.gk {c d:Nat}{s s':S}(h:Kp c d s s'):Gk c d s s':=⟨by rw[h.len];exact Nat.le_refl _,λ i _ h1 h2=>h.get i h1 h2⟩
theorem Gk.app (c d:Nat)(s e:S):Gk c d s (s++e):=⟨by simp,λ i hi _ _=>List.getElem?_append_left hi⟩
theorem Gk.trans {c d:Nat}{s s' yQ:S}(h:Gk c d s s')(k:Gk c d s' yQ):Gk c d s yQ:=⟨Nat.le_trans h.len k.len,λ i hi h1 h2=>(k.get i (Nat.lt_of_lt_of_le hi h.len) h1 h2).trans (h.get i hi h1 h2)⟩
theorem Gk.lst {c d n i:Nat}{s s':S}{xs:List AV}(h:Gk c d s s')(h1:i≠c)(h2:i≠d)(k:aq s i=some xs):aq s' i=some xs:=by
 have e:=ay k
 exact c7 ((h.get i (List.getElem?_eq_some_iff.mp e).1 h1 h2).trans e)
theorem Gk.set {c d i:Nat}{s s':S}{o:AO}(h:Gk c d s s')(hi:s.length<=i):Gk c d s (s'.set i o):=⟨by rw[List.length_set];exact h.len,λ j hj h1 h2=>by rw[List.getElem?_set_ne (by omega)];exact h.get j hj h1 h2⟩
theorem Gk.cut {c d n m:Nat}{s s':S}(h:Gk c d s s')(D:Dr c d n s)(D':Dr c d m s'):Dr c d m (s'.take s.length)/\Kp c d s (s'.take s.length)/\(s'.take s.length).all (AO.low s.length)=true:=by
 have lc:=D.v8
 have ld:=D.v7
 have el:(s'.take s.length).length=s.length:=by rw[List.length_take];have:=h.len;omega
 have eg:∀ i,i < s.length->(s'.take s.length)[i]? = s'[i]?:=λ i hi=>List.getElem?_take_of_lt hi
 have cl:=D.cl
 obtain⟨⟨t,cells,h1,h2,h3,h4,h5⟩,RY⟩:=D'
 have all:(s'.take s.length).all (AO.low s.length)=true:=by
  rw[List.all_eq_true]
  intro o ho
  obtain⟨i,hi,e⟩:=List.mem_iff_getElem.mp ho
  rw[el]at hi
  have e':(s'.take s.length)[i]? = some o:=by rw[List.getElem?_eq_getElem (by rw[el];exact hi)];rw[e]
  rw[eg i hi]at e'
  by_cases c1:i=c
  ·subst c1;rw[h2]at e';cases e';exact low_ints _ _
  by_cases c2:i=d
  ·subst c2;rw[h1]at e';cases e';simp[AO.low,tU,bx,AV.low,lc]
  rw[h.get i hi c1 c2]at e'
  have:=List.all_eq_true.mp (show s.all (AO.low s.length)=true from cl) o (List.mem_of_getElem? e')
  exact this
 refine⟨⟨⟨t,cells,by rw[eg d ld];exact h1,by rw[eg c lc];exact h2,h3,h4,h5⟩,?_⟩,⟨el,λ i c1 c2=>?_⟩,all⟩
 ·unfold Cl;rw[el];exact all
 ·by_cases hi:i < s.length
  ·rw[eg i hi];exact h.get i hi c1 c2
  ·rw[List.getElem?_eq_none (by rw[el];omega),List.getElem?_eq_none (by omega)]
theorem tm {s:S}{i:Nat}{xs:List AV}{j:Int}(h:aq s i=some xs)(h0:0<=j)(h1:j < xs.length):∃ v,v∈xs/\ai (.ref i) (.int j) s=.ok v s:=by
 obtain⟨n,rfl⟩:∃ n:Nat,j=n:=⟨j.toNat,by omega⟩
 have hn:n < xs.length:=by omega
 refine⟨xs[n],List.getElem_mem hn,?_⟩
 show(need (aq s i) λ xs=>need (gS xs n) λ v=>R.ok v s)=_
 rw[h,aG,e7 (List.getElem?_eq_getElem hn)];rfl
theorem GW {j b:Int}(h1:0<=j)(h3:0 < b):0<=Rat.divInt j b:=(Rat.divInt_nonneg_iff_of_pos_right h3).mpr h1
theorem div_add {a c b:Int}(h:b≠0):Rat.divInt a b+Rat.divInt c b=Rat.divInt (a+c) b:=by
 rw[Rat.divInt_add_divInt _ _ h h,<-Int.add_mul,Rat.divInt_mul_right h]
def NF (w:Int)(q:Rat):Prop:=∃ j,1<=j/\j<=w/\q=Rat.divInt j 60
def NB (w:Int):Rw->Prop
 | .of _ q=>1<=w/\w<=60/\NF w q
 | .steps _ us z=>1<=w/\w<=60/\us.length<=3/\(∀ p∈us,NF w p.2)/\NF w z
 | .left _ q=>w=0/\0<=q/\q<=1/\Sz 6 q
 | .len _ k=>w=0/\1<=k/\k<=1000
theorem vU {c d n:Nat}{s:S}(D:Dr c d n s)(hn:n<=900001000){xs:List AV}{m:Int}(hm:m=xs.length)(Oe:0 < m)(CD:m<=10){P:Int->Prop}(hx:∀ v∈xs,∃ b,v=.int b/\P b) :
  (ar [.ref d,.int m] (s++[.lst xs])).wp λ v s2=>∃ b,ai (.ref s.length) v s2=.ok (.int b) s2/\P b/\(s2.take s.length).all (AO.low s.length)=true/\Dr c d (n+1) (s2.take s.length)/\Kp c d s (s2.take s.length):=by
 have lx:∀ b,bx b xs=true:=λ b=>by
  clear hm Oe CD
  induction xs with
  | nil=>simp[bx]
  | cons v r ih=>
   obtain⟨i,rfl,_⟩:=hx v (.head _)
   simp only[bx,ih λ v hv=>hx v (.tail _ hv)];simp[AV.low]
 have D1':=D.app (e:=[.lst xs]) (D.cl.add (by simp[AO.low,lx]))
 refine(bp D1' (by omega) (by omega) (g_ (by omega) (by omega))).mono ?_
 rintro _ s2 ⟨j,rfl,j0,j1,D2,K2⟩
 obtain⟨v,hv,ev⟩:=tm (s:=s2) (i:=s.length) (j:=j) (K2.gk.lst (n:=0) (by have:=D.v8;omega) (by have:=D.v7;omega) (v_ s _)) j0 (by omega)
 obtain⟨b,rfl,hb⟩:=hx v hv
 obtain⟨D3,K3,al⟩:=((Gk.app c d s _).trans K2.gk).cut D D2
 exact⟨b,ev,hb,al,D3,K3⟩
theorem mZ {s:S}{i:Nat}{xs ys:List AV}(h:aq s i=some xs):aq (s.set i (.lst ys)) i=some ys:=by
 refine c7 (List.getElem?_set_self ?_)
 exact(List.getElem?_eq_some_iff.mp (ay h)).1
theorem kM (b:Nat):∀ l:List Str,bx b (l.map AV.str)=true
 | []=>by simp[bx]
 | i :: r=>by simp only[List.map_cons,bx,kM b r];simp[AV.low]
theorem uW {s:S}{i:Nat}{xs:List AV}(h:aq s i=some xs):dq [.ref i] s=.ok (.int xs.length) s:=by
 show(need (aq s i) λ xs=>R.ok (AV.int xs.length) s)=_
 rw[h];rfl
def nL:List Rw->Nat
 | []=>0
 | .left _ _ :: r=>nL r+1
 | .of _ _ :: r=>nL r
 | .steps _ _ _ :: r=>nL r
 | .len _ _ :: r=>nL r
structure Good (rs:List Rw):Prop where
 a:∀ r∈rs,∃ w,NB w r
 s:∀ u,cG ((km u rs).map (·.2))<=1
 l:rs.length<=8
 n:nL rs<=3
theorem TG:(fj "int" "list"=false)/\(fj "int" "tuple"=false)/\(fj "int" "str"=false)/\(fj "int" "int"=true)/\(fj "int" "bool"=false)/\
  (fj "str" "list"=false)/\(fj "str" "tuple"=false)/\(fj "str" "str"=true)/\
  (fj "tuple" "list"=false)/\(fj "tuple" "tuple"=true)/\(fj "list" "list"=true)/\(fj "list" "tuple"=false):=by
 refine⟨?_,?_,?_,?_,?_,?_,?_,?_,?_,?_,?_,?_⟩<;>decide +kernel
def dD (s:S)(v:AV):Prop:=(∃ t,cf v s=some t)/\match v with
 | .int i=>bw 900 i
 | .str t=>t.cps.all (· < 128)=true/\t.length<=sizeLine
 | _=>True
def jS:Nat->S->AV->Prop
 | 0,s,v=>dD s v
 | n+1,s,v=>dD s v/\∀ xs,v=.tup xs->xs.length<=sizeLine/\∀ x∈xs,jS n s x
theorem jS.leaf:∀ {n:Nat}{s:S}{v:AV},jS n s v->dD s v
 | 0,_,_,h=>h
 | _+1,_,_,h=>h.1
def isNum:AV->Bool
 | .int _=>true
 | _=>false
def gq:AV->Bool
 | .tup [.int a,.int b]=>decide (1<=b) && decide (ig a b=1)
 | _=>false
def vG (c:Nat):Bool:=decide (97<=c) && decide (c<=122)
def isNm:AV->Bool
 | .str t=>(decide (1<=t.length) && decide (t.length<=8)) && t.cps.toList.all vG
 | _=>false
def pq:AV->Bool
 | .int i=>decide (0<=i)
 | _=>false
def dj:AV->Bool
 | .tup [p,e,f,w,d,r,k,g,a]=>isNm p && [e,f,r,k].all gq && [w,d,g,a].all pq
 | _=>false
theorem mR {i:Nat}{s:S}{t:String}(h:cf (.ref i) s=some t):t="list"∨t="dict":=by
 simp only[cf]at h
 split at h<;>first|(cases h;simp)|cases h
theorem uX {v:AV}{s:S}{t n:String}(h:cf v s=some t):bU n v s=.ok (.bl (fj t n)) s:=by unfold bU;rw[h];rfl
theorem n9 {v:AV}{s:S}(h:∃ t,cf v s=some t):eJ (cK (bU "int") (mv 0)) (cK jD (cK (bU "bool") (mv 0))) [some v] s=.ok (.bl (isNum v)) s:=by
 obtain⟨t,h⟩:=h
 show((bU "int" v s).bind λ v s1=>_)=_
 rw[uX h]
 show(match AV.bl (fj t "int") with|.bl true=>((bU "bool" v s).bind λ w s2=>jD w s2)|.bl false=>.ok (.bl false) s|_=>.bad)=_
 rw[uX h]
 cases v with
 | ref i=>rcases mR h with rfl|rfl<;>rfl
 | _=>cases h;rfl
theorem kT {v:AV}{s:S}(h:∃ t,cf v s=some t):bW [v] s=.ok (.bl (isNum v)) s:=by
 unfold bW jj gh aU
 show(match (eJ (cK (bU "int") (mv 0)) (cK jD (cK (bU "bool") (mv 0))) [some v] s).dw (λ v s1=>RS.rt v s1) with|.rt v s1=>R.ok v s1|.nx _ s1=>.ok .aY s1|.ex c s1=>.ex c s1|_=>.bad)=_
 rw[n9 h];rfl
theorem comp_map {elt:Ev}{gs:Gd}{rest:En}{s:S}(g:AV->AV)(hg:mG gs s):∀ (xs acc:List AV) (x:Option AV),(∀ v∈xs,elt (some v :: rest) s=.ok (g v) s)->dQ (gN 0) bE elt gs xs (x :: rest) s acc=.ok (acc++xs.map g) s
 | [],acc,x,_=>by unfold dQ;rw[if_pos hg];simp
 | v :: r,acc,x,h=>by
  unfold dQ
  rw[if_pos hg]
  show((elt (some v :: rest) s).calm.bind λ x s3=>dQ (gN 0) bE elt gs r (some v :: rest) s3 (acc++[x]))=_
  rw[h v (.head _)]
  show dQ (gN 0) bE elt gs r (some v :: rest) s (acc++[g v])=_
  rw[comp_map g hg r _ _ λ w hw=>h w (.tail _ hw)]
  simp
theorem oO (f:AV->Bool):∀ xs:List AV,jB (xs.map λ v=>.bl (f v))=some (xs.map f)
 | []=>rfl
 | v :: r=>by simp only[List.map_cons,jB,oO f r];rfl
theorem all_map {l:Lc}{src:Src}{elt:Ev}{env:En}{s:S}{xs:List AV}{gs:Gd}{rest:En}(f:AV->Bool)(e1:src env s=.ok (xs,gs) s) (hl:xs.length<=sizeLine)(hg:mG gs s)(e2:hU l env=none :: rest)(h:∀ v∈xs,elt (some v :: rest) s=.ok (.bl (f v)) s) :
  dm dC (aK l src (gN 0) bE elt) env s=.ok (.bl (xs.all f)) s:=by
 unfold dm aK
 rw[e1,dz,if_pos hl,e2,comp_map (λ v=>.bl (f v)) hg xs [] none h]
 show(need (jB (xs.map λ v=>.bl (f v))) λ ns=>R.ok (AV.bl (ns.all id)) s)=_
 rw[oO]
 show R.ok (AV.bl ((xs.map f).all id)) s=_
 rw[List.all_map];rfl
theorem ao {α β:Type}(a:α)(s:S)(f:α->S->R β):(R.ok a s).bind f=f a s:=rfl
theorem bu (s:S):mG [] s:=λ p hp=>nomatch hp
theorem i_ {c:Eb}{b:Ms}{env:En}{s:S}{x:Bool}{v:AV}(h:c env s=.ok x s)(k:x=false->b env s=.rt v s):au (dU c (aU (mc (.bl false))) bH) b env s=.rt (if x=true then .bl false else v) s:=by
 unfold au dU
 rw[h]
 cases x with
 | true=>rfl
 | false=>exact k rfl
theorem iT {c d:Eb}{env:En}{s:S}{x y:Bool}(h:c env s=.ok x s)(k:x=false->d env s=.ok y s):iM c d env s=.ok (x || y) s:=by
 unfold iM
 rw[h]
 cases x with
 | true=>rfl
 | false=>exact k rfl
theorem aJ {c:Eb}{env:En}{s:S}{x:Bool}(h:c env s=.ok x s):cF c env s=.ok (!x) s:=by unfold cF;rw[h];rfl
theorem bX {m:Ev}{env:En}{s:S}{x:Bool}(h:m env s=.ok (.bl x) s):cT m env s=.ok x s:=by unfold cT;rw[h];rfl
theorem jh {m:Ev}{env:En}{s:S}{x:Bool}(h:m env s=.ok (.bl x) s):cB m env s=.ok x s:=by unfold cB;rw[h];rfl
theorem dZ {m:Ev}{env:En}{s:S}{v:AV}(h:m env s=.ok v s):aU m env s=.rt v s:=by unfold aU;rw[h];rfl
theorem eU {a b:Ev}{env:En}{s:S}{x y:Bool}(h:a env s=.ok (.bl x) s) (k:x=true->b env s=.ok (.bl y) s):eJ a b env s=.ok (.bl (x && y)) s:=by
 unfold eJ
 rw[h]
 cases x with
 | false=>rfl
 | true=>exact k rfl
theorem uO {a b:Ev}{env:En}{s:S}{x y:Bool}(h:a env s=.ok (.bl x) s) (k:x=false->b env s=.ok (.bl y) s):zI a b env s=.ok (.bl (x || y)) s:=by
 unfold zI
 rw[h]
 cases x with
 | true=>rfl
 | false=>exact k rfl
theorem oM {F:List AV->S->R AV}{m:Ev}{env:En}{s:S}{v w:AV}(h:m env s=.ok v s)(k:F [v] s=.ok w s):aj 1 F (aa m ah) env s=.ok w s:=by
 unfold aj aa ah
 rw[h]
 exact k
theorem call2 {F:List AV->S->R AV}{m m2:Ev}{env:En}{s:S}{v v2 w:AV}(h:m env s=.ok v s)(h2:m2 env s=.ok v2 s)(k:F [v,v2] s=.ok w s):aj 2 F (aa m (aa m2 ah)) env s=.ok w s:=by
 unfold aj aa ah
 rw[h,ao,h2]
 exact k
theorem vy {op:AV->S->R AV}{m:Ev}{env:En}{s:S}{v w:AV}(h:m env s=.ok v s)(k:op v s=.ok w s):cK op m env s=.ok w s:=by unfold cK;rw[h];exact k
theorem ax {op:AV->AV->S->R AV}{m m2:Ev}{env:En}{s:S}{v v2 w:AV}(h:m env s=.ok v s)(h2:m2 env s=.ok v2 s)(k:op v v2 s=.ok w s):af op m m2 env s=.ok w s:=by unfold af;rw[h,ao,h2];exact k
theorem lJ {op:List AV->S->R AV}{m:Ev}{env:En}{s:S}{v w:AV}(h:m env s=.ok v s)(k:op [v] s=.ok w s):gp op (aa m ah) env s=.ok w s:=by unfold gp aa ah;rw[h];exact k
theorem cq {n:Nat}{b:Ms}{args:List AV}{s:S}{v:AV}(h:b (args.map some++List.replicate (n - args.length) none) s=.rt v s):gh n b args s=.ok v s:=by unfold gh;rw[h]
theorem oJ {o o':AV->AV->S->R AV}{a b c:Ev}{env:En}{s:S}{v w z:AV}{x y:Bool}(h1:a env s=.ok v s)(h2:b env s=.ok w s)(h3:o v w s=.ok (.bl x) s) (h4:c env s=.ok z s)(h5:o' w z s=.ok (.bl y) s):b9 o o' a b c env s=.ok (.bl (x && y)) s:=by
 unfold b9
 rw[h1,ao,h2,ao,h3,ao]
 cases x with
 | false=>rfl
 | true=>show((c env s).bind λ z s4=>o' w z s4)=_;rw[h4];exact h5
theorem FR {xs:List AV}{s:S}:dq [.tup xs] s=.ok (.int xs.length) s:=rfl
def cw (n:String):AV->S->Bool:=λ v s=>match cf v s with
 | some t=>fj t n
 | none=>false
theorem qS {v:AV}{s:S}{n:String}{m:Ev}{env:En}(h:∃ t,cf v s=some t)(e:m env s=.ok v s):cK (bU n) m env s=.ok (.bl (cw n v s)) s:=by
 obtain⟨t,h⟩:=h
 refine vy e ?_
 unfold cw
 rw[uX h,h]
theorem uy {v:AV}{s:S}(h:cw "tuple" v s=true):∃ xs,v=.tup xs:=by
 cases v with
 | tup xs=>exact⟨xs,rfl⟩
 | ref i=>
  unfold cw at h
  split at h
  ·rename_i t e;rcases mR e with rfl|rfl<;>exact absurd h (by decide)
  ·cases h
 | _=>exact absurd h (by unfold cw;simp only[cf];decide)
theorem ty_str {v:AV}{s:S}(h:cw "str" v s=true):∃ xs,v=.str xs:=by
 cases v with
 | str xs=>exact⟨xs,rfl⟩
 | ref i=>
  unfold cw at h
  split at h
  ·rename_i t e;rcases mR e with rfl|rfl<;>exact absurd h (by decide)
  ·cases h
 | _=>exact absurd h (by unfold cw;simp only[cf];decide)
theorem A9 (xs:List AV)(s:S):cw "tuple" (.tup xs) s=true:=by unfold cw;simp only[cf];decide
theorem A_ (xs:Str)(s:S):cw "str" (.str xs) s=true:=by unfold cw;simp only[cf];decide
def isTup (n:Int):AV->Bool
 | .tup xs=>decide ((xs.length:Int)=n)
 | _=>false
theorem lS {v:AV}{s:S}{n:Int}:(cw "tuple" v s && isTup n v)=isTup n v:=by
 cases h:cw "tuple" v s with
 | true=>simp
 | false=>
  cases v with
  | tup xs=>rw[A9]at h;cases h
  | _=>rfl
theorem gC {v:AV}{s:S}{n:Int}(h:∃ t,cf v s=some t):cm [v,.int n] s=.ok (.bl (isTup n v)) s:=by
 rw[<-lS (s:=s)]
 refine cq (dZ (eU (qS h rfl) λ h1=>?_))
 obtain⟨xs,rfl⟩:=uy h1
 exact ax (lJ rfl FR) rfl rfl
theorem Dl (a c:Nat):(!decide ([c] < [a]))=decide (a<=c):=by
 have:([c] < [a]) ↔ c < a:=by
  rw[List.cons_lt_cons_iff];simp
 by_cases h:c < a
 ·simp[this,h]
 ·simp[this,h];omega
def Ki:AV->Bool
 | .str u=>u.cps.toList.all vG
 | _=>false
theorem mS (c:Nat):Ki (sgn c)=vG c:=by unfold Ki sgn;simp
theorem zM {t:Str}{s:S}(h:t.length<=sizeLine):dq [.str t] s=.ok (.int t.length) s:=if_pos h
theorem Jc {m:Ev}{env:En}{t:Str}{s:S}(e:m env s=.ok (.str t) s) (h:t.length<=sizeLine):b9 my my (mc (.int 1)) (gp dq (aa m ah)) (mc (.int 8)) env s=.ok (.bl (decide (1<=t.length) && decide (t.length<=8))) s:=by
 rw[oJ (x:=decide ((1:Int)<=t.length)) (y:=decide ((t.length:Int)<=8)) rfl (lJ e (zM h)) rfl rfl rfl]
 congr 3
 ·simp;omega
 ·simp;omega
theorem vE {m:Ev}{env:En}{t:Str}{s:S}(e:m env s=.ok (.str t) s) (h:t.cps.all (· < 128)=true):sx m env s=.ok (t.cps.toList.map sgn,[]) s:=by
 unfold sx
 rw[e]
 exact if_pos h
theorem J8 (c:Nat)(s:S):b9 iU iU (mc (.str "a")) (mv 0) (mc (.str "z")) [some (sgn c)] s=.ok (.bl (vG c)) s:=by
 have e1:("a":Str).cps.toList=[97]:=by decide +kernel
 have e2:("z":Str).cps.toList=[122]:=by decide +kernel
 show(match AV.bl (!decide ([c] < ("a":Str).cps.toList)) with|.bl true=>R.ok (AV.bl (!decide (("z":Str).cps.toList < [c]))) s|.bl false=>.ok (.bl false) s|_=>.bad)=_
 rw[e1,e2,Dl,Dl]
 unfold vG
 by_cases h:97<=c
 ·simp[h]
 ·simp[h]
theorem yM {l:Lc}{env:En}{m:Ev}{t:Str}{s:S}(e:m env s=.ok (.str t) s) (e2:hU l env=[none])(h:t.cps.all (· < 128)=true) (hl:t.length<=sizeLine) :
  dm dC (aK l (sx m) (gN 0) bE (b9 iU iU (mc (.str "a")) (mv 0) (mc (.str "z")))) env s=.ok (.bl (t.cps.toList.all vG)) s:=by
 rw[all_map Ki (vE e h) (by rw[List.length_map];exact hl) (bu s) e2 λ v hv=>?_]
 ·rw[List.all_map]
  congr 2
  congr 1
  funext c
  exact mS c
 ·obtain⟨c,_,rfl⟩:=List.mem_map.mp hv
  rw[J8,mS]
theorem i8 {c:Eb}{b:Ms}{env:En}{s:S}(h:c env s=.ok true s):au (dU c (aU (mc (.bl false))) bH) b env s=.rt (.bl false) s:=by
 unfold au dU
 rw[h];rfl
theorem og {c:Eb}{b:Ms}{env:En}{s:S}{r:RS}(h:c env s=.ok false s)(k:b env s=r):au (dU c (aU (mc (.bl false))) bH) b env s=r:=by
 unfold au dU
 rw[h];exact k
theorem qI {c d:Eb}{env:En}{s:S}(h:c env s=.ok true s):iM c d env s=.ok true s:=by unfold iM;rw[h];rfl
theorem h_ {c d:Eb}{env:En}{s:S}{r:R Bool}(h:c env s=.ok false s)(k:d env s=r):iM c d env s=r:=by unfold iM;rw[h];exact k
theorem gB {v:AV}{s:S}{n:String}{m:Ev}{env:En}{b:Bool}(h:∃ t,cf v s=some t)(e:m env s=.ok v s)(k:cw n v s=b):cK (bU n) m env s=.ok (.bl b) s:=k ▸ qS h e
theorem wy {v:AV}{s:S}(h:cw "str" v s=false):isNm v=false:=by
 cases v with
 | str xs=>rw[A_]at h;cases h
 | _=>rfl
theorem uY {v:AV}{s:S}(h:dD s v):fV [v] s=.ok (.bl (isNm v)) s:=by
 obtain⟨ht,h⟩:=h
 cases hs:cw "str" v s with
 | true=>
  obtain⟨t,rfl⟩:=ty_str hs
  refine(cq (i_ (iT (aJ (bX (gB ht rfl hs))) λ _=>aJ (jh (Jc rfl h.2))) λ _=>dZ (yM rfl rfl h.1 h.2))).trans ?_
  unfold isNm
  dsimp only
  cases (decide (1<=t.length) && decide (t.length<=8))<;>rfl
 | false=>
  rw[wy hs]
  exact cq (i8 (qI (aJ (x:=false) (bX (gB ht rfl hs)))))
theorem qU {v:AV}(h:isTup 2 v=false):gq v=false:=by
 unfold gq
 split
 ·exact absurd h (by simp[isTup])
 ·rfl
theorem tD {v w:AV}(h:isNum v=false∨isNum w=false):gq (.tup [v,w])=false:=by
 unfold gq
 split
 ·rename_i e;cases e;rcases h with h|h<;>cases h
 ·rfl
theorem g8 {v:AV}(h:isNum v=true):∃ i,v=.int i:=by
 cases v with
 | int i=>exact⟨i,rfl⟩
 | _=>cases h
theorem two_of {xs:List AV}(h:isTup 2 (.tup xs)=true):∃ a b,xs=[a,b]:=by
 have h:((xs.length:Int))=2:=by simpa[isTup]using h
 match xs,h with
 | [a,b],_=>exact⟨a,b,rfl⟩
 | [],h=>simp at h
 | [a],h=>simp at h
 | a :: b :: c :: r,h=>simp at h;omega
theorem yD {n:Int}{v:AV}(h:isTup n v=true):∃ xs,v=.tup xs:=by
 cases v with
 | tup xs=>exact⟨xs,rfl⟩
 | _=>cases h
theorem B7 {F:List AV->S->R AV}{l:Lc}{env:En}{m:Ev}{a b:AV}{s:S}(hF:∀ v,(∃ t,cf v s=some t)->F [v] s=.ok (.bl (isNum v)) s) (e:m env s=.ok (.tup [a,b]) s) (e2:hU l env=[none])(h1:∃ t,cf a s=some t)(h2:∃ t,cf b s=some t) :
  dm dC (aK l (aV m) (gN 0) bE (aj 1 F (aa (mv 0) ah))) env s=.ok (.bl (isNum a && (isNum b && true))) s:=by
 refine all_map (xs:=[a,b]) (gs:=[]) isNum ?_ (by show(2:Nat)<=sizeLine;rw[sizeLine_eq];decide) (bu s) e2 λ v hv=>?_
 ·unfold aV;rw[e];rfl
 ·simp only[List.mem_cons,List.not_mem_nil,or_false]at hv
  rcases hv with rfl|rfl
  ·exact oM rfl (hF _ h1)
  ·exact oM rfl (hF _ h2)
theorem n_ {v:AV}{s:S}(h:jS 1 s v):cM [v] s=.ok (.bl (gq v)) s:=by
 have ht:=h.leaf.1
 cases hs:isTup 2 v with
 | false=>
  rw[qU hs]
  exact cq (i8 (qI (aJ (x:=false) (bX (call2 rfl rfl (hs ▸ gC ht))))))
 | true=>
  obtain⟨xs,rfl⟩:=yD hs
  obtain⟨a,b,rfl⟩:=two_of hs
  obtain⟨_,h2⟩:=h.2 _ rfl
  have h1:=(h2 a (by simp)).leaf.1
  have h3:=(h2 b (by simp)).leaf.1
  have k:=B7 (F:=bW) (l:=[("number",none)]) (env:=[some (.tup [a,b]),none,none]) (m:=mv 0) (s:=s) (λ v h=>kT h) rfl rfl h1 h3
  have k0:cT (aj 2 cm (aa (mv 0) (aa (mc (.int 2)) ah))) [some (.tup [a,b]),none,none] s=.ok true s:=bX (call2 rfl rfl (hs ▸ gC ht))
  cases ha:isNum a && isNum b with
  | false=>
   rw[tD (by cases h:isNum a<;>simp_all)]
   refine cq (i8 (h_ (aJ k0) (aJ (x:=false) (bX ?_))))
   rw[show(isNum a && (isNum b && true))=false by simpa using ha]at k
   exact k
  | true=>
   obtain⟨ha,hb⟩:=Bool.and_eq_true_iff.mp ha
   obtain⟨i,rfl⟩:=g8 ha
   obtain⟨j,rfl⟩:=g8 hb
   refine cq (og (h_ (aJ k0) (aJ (x:=true) (bX k))) ?_)
   show au _ _ _ s=_
   have:aU (eJ (af jR (mv 2) (mc (.int 1))) (af bI (aj 2 aS (aa (mv 1) (aa (mv 2) ah))) (mc (.int 1)))) [some (.tup [.int i,.int j]),some (.int i),some (.int j)] s=.rt (.bl (decide (1<=j) && decide (ig i j=1))) s:=
    dZ (eU rfl λ _=>ax (call2 rfl rfl (Am i j s)) rfl rfl)
   exact this
theorem z_ {i j:Int}(hj:1<=j):ig i j=1 ↔ Int.gcd i j=1:=by
 show((Int.gcd i j:Nat):Int)=1 ↔ _
 omega
theorem GQ (s:S)(a b c d:Int):bI (.tup [.int a,.int b]) (.tup [.int c,.int d]) s=.ok (.bl (decide (a=c) && decide (b=d))) s:=by
 unfold bI mK
 simp only
 have e:∀ x y:Int,toD 20 s (.tup [.int x,.int y])=some (.tup [.int x,.int y]):=λ x y=>by simp[toD]
 rw[e,e]
 dsimp only
 rw[if_pos (show dH [Dt.int a,Dt.int b]<=20 by simp[dH,Dt.dep])]
 simp only[dv,cN,aG]
 by_cases h1:a=c<;>by_cases h2:b=d<;>simp[h1,h2]
theorem sW {i j:Int}(hj:1<=j):(decide ((Rat.divInt i j).num=i) && decide (((Rat.divInt i j).den:Int)=j))=decide (ig i j=1):=by
 have e:=lX (t:=i) (b:=j) (by omega)
 have e1:i.fdiv (jX i j)=(Rat.divInt i j).num:=congrArg Prod.fst e
 have e2:j.fdiv (jX i j)=((Rat.divInt i j).den:Int):=congrArg Prod.snd e
 have eg:jX i j=ig i j:=if_neg (by omega)
 rw[eg]at e1 e2
 by_cases h:ig i j=1
 ·rw[h,Int.fdiv_one]at e1 e2
  rw[<-e1,<-e2];simp[h]
 ·rw[decide_eq_false h,Bool.and_eq_false_iff]
  by_cases h1:(Rat.divInt i j).num=i
  ·right
   apply decide_eq_false
   intro h2
   have:=kG (Rat.divInt i j)
   rw[h1,h2]at this
   exact h ((z_ hj).mpr this)
  ·left;exact decide_eq_false h1
theorem v5 {xs:List AV}(h:isTup 9 (.tup xs)=true):∃ p e f w d r k g a,xs=[p,e,f,w,d,r,k,g,a]:=by
 have h:((xs.length:Int))=9:=by simpa[isTup]using h
 match xs,h with
 | [p,e,f,w,d,r,k,g,a],_=>exact⟨p,e,f,w,d,r,k,g,a,rfl⟩
 | [],h=>simp at h
 | [_],h=>simp at h
 | [_,_],h=>simp at h
 | [_,_,_],h=>simp at h
 | [_,_,_,_],h=>simp at h
 | [_,_,_,_,_],h=>simp at h
 | [_,_,_,_,_,_],h=>simp at h
 | [_,_,_,_,_,_,_],h=>simp at h
 | [_,_,_,_,_,_,_,_],h=>simp at h
 | _ :: _ :: _ :: _ :: _ :: _ :: _ :: _ :: _ :: _ :: r,h=>simp at h;omega
theorem qT {v:AV}(h:isTup 9 v=false):dj v=false:=by
 unfold dj
 split
 ·exact absurd h (by simp[isTup])
 ·rfl
theorem z9 (v:AV):(isNum v && pq v)=pq v:=by cases v<;>rfl
theorem IJ {F:List AV->S->R AV}{m:Ev}{env:En}{v:AV}{s:S}(hF:F [v] s=.ok (.bl (isNum v)) s) (e:m env s=.ok v s):eJ (aj 1 F (aa m ah)) (af jR m (mc (.int 0))) env s=.ok (.bl (pq v)) s:=by
 rw[<-z9]
 refine eU (oM e hF) λ h=>?_
 obtain⟨i,rfl⟩:=g8 h
 exact ax e rfl rfl
theorem qC:∀ {a b c d:AV},[a,b,c,d].length<=sizeLine:=λ {_ _ _ _}=>by show(4:Nat)<=sizeLine;rw[sizeLine_eq];decide
theorem Ec {m1 m2 m3 m4:Ev}{env:En}{s:S}{a b c d:AV}(h1:m1 env s=.ok a s)(h2:m2 env s=.ok b s)(h3:m3 env s=.ok c s)(h4:m4 env s=.ok d s):aV (aT (aa m1 (aa m2 (aa m3 (aa m4 ah))))) env s=.ok ([a,b,c,d],[]) s:=by
 unfold aV aT aa ah
 rw[h1,ao,h2,ao,h3,ao,h4]
 simp only[ao]
 rw[if_pos qC]
 rfl
theorem pK (p e f w d r k g a:AV):dj (.tup [p,e,f,w,d,r,k,g,a])=(isNm p && [e,f,r,k].all gq && [w,d,g,a].all pq):=rfl
theorem mD {v:AV}{s:S}(h:jS 2 s v):cD [v] s=.ok (.bl (dj v)) s:=by
 have ht:=h.leaf.1
 cases hs:isTup 9 v with
 | false=>
  rw[qT hs]
  exact cq (i8 (aJ (x:=false) (bX (call2 rfl rfl (hs ▸ gC ht)))))
 | true=>
  obtain⟨xs,rfl⟩:=yD hs
  obtain⟨p,e,f,w,d,r,k,g,a,rfl⟩:=v5 hs
  obtain⟨_,h2⟩:=h.2 _ rfl
  refine cq (og (aJ (x:=true) (bX (call2 rfl rfl (hs ▸ gC ht)))) ?_)
  let E:En:=[some (.tup [p,e,f,w,d,r,k,g,a]),some p,some e,some f,some w,some d,some r,some k,some g,some a]
  have kn:cT (aj 1 fV (aa (mv 1) ah)) E s=.ok (isNm p) s:=bX (oM rfl (uY (h2 p (by simp)).leaf))
  have kf:dm dC (aK [("coins",none)] (aV (aT (aa (mv 2) (aa (mv 3) (aa (mv 6) (aa (mv 7) ah)))))) (gN 0) bE (aj 1 cM (aa (mv 0) ah))) E s=.ok (.bl ([e,f,r,k].all gq)) s:=by
   refine all_map (rest:=[]) gq (Ec rfl rfl rfl rfl) qC (bu s) rfl λ v hv=>oM rfl (n_ (h2 v ?_))
   simp only[List.mem_cons,List.not_mem_nil,or_false]at hv ⊢
   rcases hv with rfl|rfl|rfl|rfl<;>simp
  have ku:dm dC (aK [("coins",none)] (aV (aT (aa (mv 4) (aa (mv 5) (aa (mv 8) (aa (mv 9) ah)))))) (gN 0) bE (eJ (aj 1 bW (aa (mv 0) ah)) (af jR (mv 0) (mc (.int 0))))) E s=.ok (.bl ([w,d,g,a].all pq)) s:=by
   refine all_map (rest:=[]) pq (Ec rfl rfl rfl rfl) qC (bu s) rfl λ v hv=>IJ (kT (h2 v ?_).leaf.1) rfl
   simp only[List.mem_cons,List.not_mem_nil,or_false]at hv ⊢
   rcases hv with rfl|rfl|rfl|rfl<;>simp
  have:=i_ (b:=aU (dm dC (aK [("coins",none)] (aV (aT (aa (mv 4) (aa (mv 5) (aa (mv 8) (aa (mv 9) ah)))))) (gN 0) bE (eJ (aj 1 bW (aa (mv 0) ah)) (af jR (mv 0) (mc (.int 0))))))) (iT (aJ kn) λ _=>aJ (bX kf)) λ _=>dZ ku
  refine Eq.trans (show _=au _ _ E s from rfl) (this.trans ?_)
  rw[pK]
  congr 1
  cases isNm p<;>cases [e,f,r,k].all gq<;>rfl
theorem Hb:∀ c,c < 128->Txt.contains "abcdefghijklmnopqrstuvwxyz" ⟨#[c]⟩=vG c:=by decide +kernel
theorem aE (s:S)(xs:List AV):aq (s++[.lst xs]) s.length=some xs:=c7 (by simp)
theorem aL {s e:S}{i:Nat}{xs:List AV}(h:aq s i=some xs):aq (s++e) i=some xs:=by
 refine c7 ?_
 have:=ay h
 rw[List.getElem?_append_left (List.getElem?_eq_some_iff.mp this).1]
 exact this
theorem Dy {p e f w d r k g a:AV}{s:S} :
  ai (.tup [p,e,f,w,d,r,k,g,a]) (.int 0) s=.ok p s/\ai (.tup [p,e,f,w,d,r,k,g,a]) (.int 1) s=.ok e s/\ai (.tup [p,e,f,w,d,r,k,g,a]) (.int 2) s=.ok f s/\ai (.tup [p,e,f,w,d,r,k,g,a]) (.int 3) s=.ok w s/\ai (.tup [p,e,f,w,d,r,k,g,a]) (.int 4) s=.ok d s/\ai (.tup [p,e,f,w,d,r,k,g,a]) (.int 5) s=.ok r s/\ai (.tup [p,e,f,w,d,r,k,g,a]) (.int 6) s=.ok k s/\ai (.tup [p,e,f,w,d,r,k,g,a]) (.int 7) s=.ok g s/\ai (.tup [p,e,f,w,d,r,k,g,a]) (.int 8) s=.ok a s:=⟨rfl,rfl,rfl,rfl,rfl,rfl,rfl,rfl,rfl⟩
theorem J9 {l:Lc}{env:En}{elt:Ev}{s:S}{t x1 x2 x3 x4:AV}{a b c d:Int}(f:AV->Bool)(e2:hU l env=[none,some t])(h1:ai t (.int a) s=.ok x1 s) (h2:ai t (.int b) s=.ok x2 s) (h3:ai t (.int c) s=.ok x3 s) (h4:ai t (.int d) s=.ok x4 s)
  (h:∀ (i:Int) (x:AV),ai t (.int i) s=.ok x s->x∈[x1,x2,x3,x4]->elt [some (.int i),some t] s=.ok (.bl (f x)) s) :
  dm dC (aK l (aV (aT (aa (mc (.int a)) (aa (mc (.int b)) (aa (mc (.int c)) (aa (mc (.int d)) ah)))))) (gN 0) bE elt) env s=.ok (.bl ([x1,x2,x3,x4].all f)) s:=by
 let F:AV->Bool:=λ v=>match v with
  | .int i=>match ai t (.int i) s with
   | .ok x _=>f x
   | _=>false
  | _=>false
 have k:=all_map (l:=l) (elt:=elt) (env:=env) (s:=s) (rest:=[some t]) F (Ec (m1:=mc (.int a)) (m2:=mc (.int b)) (m3:=mc (.int c)) (m4:=mc (.int d)) rfl rfl rfl rfl) qC (bu s) e2 λ v hv=>?_
 ·rw[k]
  show R.ok (AV.bl (F (.int a) && (F (.int b) && (F (.int c) && (F (.int d) && true))))) s=_
  simp only[F,h1,h2,h3,h4]
  rfl
 ·simp only[List.mem_cons,List.not_mem_nil,or_false]at hv
  rcases hv with rfl|rfl|rfl|rfl
  ·rw[h a x1 h1 (by simp)];simp only[F,h1]
  ·rw[h b x2 h2 (by simp)];simp only[F,h2]
  ·rw[h c x3 h3 (by simp)];simp only[F,h3]
  ·rw[h d x4 h4 (by simp)];simp only[F,h4]
def eI (p:Str)(e f:Rat)(w d:Int)(r k:Rat)(g a:Int):AV:=.tup [.str p,fq e,fq f,.int w,.int d,fq r,fq k,.int g,.int a]
theorem kW {v:AV}(h:gq v=true):∃ q:Rat,v=fq q:=by
 unfold gq at h
 split at h
 ·rename_i a b
  obtain⟨h1,h2⟩:=Bool.and_eq_true_iff.mp h
  have h1:=of_decide_eq_true h1
  have h2:=of_decide_eq_true h2
  have:=sW (i:=a) h1
  rw[decide_eq_true h2,Bool.and_eq_true]at this
  refine⟨Rat.divInt a b,?_⟩
  unfold fq
  rw[of_decide_eq_true this.1,of_decide_eq_true this.2]
 ·cases h
theorem kU {v:AV}(h:pq v=true):∃ i:Int,v=.int i/\0<=i:=by
 cases v with
 | int i=>exact⟨i,rfl,of_decide_eq_true h⟩
 | _=>cases h
theorem zZ {v:AV}(h:isNm v=true):∃ t,v=.str t:=by
 cases v with
 | str t=>exact⟨t,rfl⟩
 | _=>cases h
theorem i7 {v:AV}(h:dj v=true):∃ p e f w d r k g a,v=eI p e f w d r k g a/\0<=w/\0<=d/\0<=g/\0<=a:=by
 unfold dj at h
 split at h
 ·simp only[List.all_cons,List.all_nil,Bool.and_eq_true,and_true]at h
  obtain⟨⟨h0,h1,h2,h3,h4⟩,h5,h6,h7,h8⟩:=h
  obtain⟨p,rfl⟩:=zZ h0
  obtain⟨e,rfl⟩:=kW h1
  obtain⟨f,rfl⟩:=kW h2
  obtain⟨r,rfl⟩:=kW h3
  obtain⟨k,rfl⟩:=kW h4
  obtain⟨w,rfl,hw⟩:=kU h5
  obtain⟨d,rfl,hd⟩:=kU h6
  obtain⟨g,rfl,hg⟩:=kU h7
  obtain⟨a,rfl,ha⟩:=kU h8
  exact⟨p,e,f,w,d,r,k,g,a,rfl,hw,hd,hg,ha⟩
 ·cases h
theorem vA {s:S}{q:Rat}(h:jS 1 s (fq q)):Sz 900 q:=by
 obtain⟨_,h2⟩:=h.2 _ rfl
 exact⟨(h2 (.int q.num) (by simp)).leaf.2,(h2 (.int q.den) (by simp)).leaf.2⟩
structure oU (e f:Rat)(w d:Int)(r k:Rat):Prop where
 e:Sz 900 e
 f:Sz 900 f
 r:Sz 900 r
 k:Sz 900 k
 w:bw 900 w
 d:bw 900 d
theorem lE {s:S}{p:Str}{e f:Rat}{w d:Int}{r k:Rat}{g a:Int}(h:jS 2 s (eI p e f w d r k g a)):oU e f w d r k:=by
 obtain⟨_,h2⟩:=h.2 _ rfl
 exact⟨vA (h2 (fq e) (by simp)),vA (h2 (fq f) (by simp)),vA (h2 (fq r) (by simp)),vA (h2 (fq k) (by simp)),(h2 (.int w) (by simp)).leaf.2,(h2 (.int d) (by simp)).leaf.2⟩
theorem nv:∀ (l:List Rat)(a:Rat)(m:Nat),Sz m a->(∀ q∈l,Sz 901 q)->m+902 * l.length<=4400->qw 4400 a l
 | [],a,m,h,_,hm=>h.mono (by simp at hm;omega)
 | q :: r,a,m,h,hq,hm=>by
  simp only[List.length_cons]at hm
  exact⟨h.mono (by omega),(hq q (.head _)).mono (by omega),nv r (a+q) (m+901+1) (h.add (hq q (.head _))) (λ x hx=>hq x (.tail _ hx)) (by omega)⟩
theorem xm:Sz 2 (0:Rat):=⟨cA (by decide) (by decide),cA (by decide) (by decide)⟩
theorem vB:∀ l:List Rat,(∀ q∈l,Sz 901 q)->Sz (902 * l.length+2) (cG l)
 | [],_=>xm
 | q :: r,h=>((h q (.head _)).add (vB r λ x hx=>h x (.tail _ hx))).mono (by simp only[List.length_cons];omega)
theorem jM {i:Int}{n:Nat}(h:bw n i)(hn:2<=n):Sz n (i:Rat):=⟨h,(show bw n (1:Int) from(cA (n:=2) (by decide) (by decide)).mono hn)⟩
theorem Cs (q:Rat)(n:Nat):(fq q).low n=true:=by simp[fq,AV.low,bx]
theorem dy {r:dR}{env:En}{s:S}{vs:List AV}(h:r env s=.ok vs s)(hl:vs.length<=1000):bz r env s=.ok vs s:=by
 unfold bz
 rw[h,ao,if_pos (Nat.le_of_lt (a4 hl))]
theorem cj {r:dR}{env:En}{s:S}{vs:List AV}(h:r env s=.ok vs s)(hl:vs.length<=1000):aT r env s=.ok (.tup vs) s:=by
 unfold aT
 rw[h,ao,if_pos (Nat.le_of_lt (a4 hl))]
theorem CI {F:List AV->S->R AV}{L:dR}{env:En}{s:S}{l:List Rat}(hL:L env s=.ok (l.map fq) s) (hF:∀ st v gs,C6 st v (l.map fq) gs->F [v] st=.ok (fq (cG l)) st):gu (aj 1 F (aa (aF L) ah)) env s=.ok (fq (cG l)) s:=by
 have e1:aF L env s=.ok (.ref s.length) (s++[.lst (l.map fq)]):=by unfold aF;rw[hL];rfl
 have e2:aj 1 F (aa (aF L) ah) env s=.ok (fq (cG l)) (s++[.lst (l.map fq)]):=by
  unfold aj aa ah
  rw[e1]
  exact hF _ _ _ (.ref (aE s _))
 unfold gu
 rw[e2,ao,if_pos ⟨by rw[List.take_left'] ;rfl,Cs _ _⟩]
theorem gb {p q:Rat}(s:S)(h:Sz 901 p)(k:Sz 901 q):b_ [fq p,fq q] s=.ok (.bl (decide (p.num * q.den < q.num * p.den))) s:=
 cq (dZ (ax (ax rfl rfl (ie (a5 h.a (by decide)) (a5 k.b (by decide)))) (ax rfl rfl (ie (a5 k.a (by decide)) (a5 h.b (by decide)))) rfl))
theorem uS (s:S)(p q:Rat):cY (fq p) (fq q) s=.ok (.bl (!decide (p=q))) s:=by unfold cY;rw[JW];rfl
def oz (r0 k0 e f:Rat)(w d:Int)(r k:Rat)(g a:Int):Bool:=
 decide (cG [r,k]=cG [r0,k0,e] - ((w+d:Int):Rat)) && decide (0<=f.num) && !decide (k0.num * f.den < f.num * k0.den) && decide (0<=k.num) && decide (r.num < r.den) && (decide (d=0) || (decide (g=0) && decide (a=0)))
theorem Dx (f:Rat):decide (f.num * (0:Rat).den < (0:Rat).num * f.den)=!decide (0<=f.num):=by
 rw[<-decide_not]
 apply decide_eq_decide.mpr
 show f.num * 1 < 0 * (f.den:Int) ↔ _
 rw[Int.mul_one,Int.zero_mul];omega
theorem Dw (r:Rat):decide (r.num * (1:Rat).den < (1:Rat).num * r.den)=decide (r.num < r.den):=by
 apply decide_eq_decide.mpr
 show r.num * 1 < 1 * (r.den:Int) ↔ _
 rw[Int.mul_one,Int.one_mul]
theorem xn {p0 p:Str}{e0 f0:Rat}{w0 d0:Int}{r0 k0:Rat}{g0 a0:Int}{e f:Rat}{w d:Int}{r k:Rat}{g a:Int}(s:S)(h0:oU e0 f0 w0 d0 r0 k0)(h:oU e f w d r k)(hg:0<=g)(ha:0<=a) :
  bL [eI p0 e0 f0 w0 d0 r0 k0 g0 a0,eI p e f w d r k g a] s=.ok (.bl (oz r0 k0 e f w d r k g a)) s:=by
 have u:∀ {q:Rat},Sz 900 q->Sz 901 q:=λ h=>h.mono (by decide)
 have ul:∀ {l:List Rat},(∀ q∈l,Sz 900 q)->∀ q∈l,Sz 901 q:=λ h q hq=>u (h q hq)
 let E:En:=[some (eI p0 e0 f0 w0 d0 r0 k0 g0 a0),some (eI p e f w d r k g a),none,some (fq r0),some (fq k0),some (.str p),some (fq e),some (fq f),some (.int w),some (.int d),some (fq r),some (fq k),some (.int g),some (.int a)]
 have m3:∀ q∈[r0,k0,e],Sz 900 q:=by
  intro q hq
  simp only[List.mem_cons,List.not_mem_nil,or_false]at hq
  rcases hq with rfl|rfl|rfl
  ·exact h0.r
  ·exact h0.k
  ·exact h.e
 have m2:∀ q∈[r,k],Sz 900 q:=by
  intro q hq
  simp only[List.mem_cons,List.not_mem_nil,or_false]at hq
  rcases hq with rfl|rfl
  ·exact h.r
  ·exact h.k
 have s3:gu (aj 1 cC (aa (aF (bz (aa (mv 3) (aa (mv 4) (aa (mv 6) ah))))) ah)) E s=.ok (fq (cG [r0,k0,e])) s:=
  CI (l:=[r0,k0,e]) (dy rfl (by simp)) λ st v gs hw=>yH (by decide:4400<=9000) hw (nv _ 0 2 xm (ul m3) (by simp))
 have Q8:aj 2 bS (aa (aT (aa (af av (mv 8) (mv 9)) (aa (mc (.int 1)) ah))) (aa (gu (aj 1 cC (aa (aF (bz (aa (mv 3) (aa (mv 4) (aa (mv 6) ah))))) ah))) ah)) E s=.ok (fq (cG [r0,k0,e] - ((w+d:Int):Rat))) s:=by
  refine call2 (v:=fq ((w+d:Int):Rat)) ?_ s3 ?_
  ·exact cj (vs:=[.int (w+d),.int 1]) rfl (by simp)
  ·exact yE (by decide:3000<=9000) ((jM (h.w.add h.d) (by decide)).mono (by decide)) ((vB _ (ul m3)).mono (by simp)) s
 let E2:En:=[some (eI p0 e0 f0 w0 d0 r0 k0 g0 a0),some (eI p e f w d r k g a),some (fq (cG [r0,k0,e] - ((w+d:Int):Rat))),some (fq r0),some (fq k0),some (.str p),some (fq e),some (fq f),some (.int w),some (.int d),some (fq r),some (fq k),some (.int g),some (.int a)]
 have s2:gu (aj 1 cC (aa (aF (bz (aa (mv 10) (aa (mv 11) ah)))) ah)) E2 s=.ok (fq (cG [r,k])) s:=
  CI (l:=[r,k]) (dy rfl (by simp)) λ st v gs hw=>yH (by decide:4400<=9000) hw (nv _ 0 2 xm (ul m2) (by simp))
 have c1:cB (af cY (gu (aj 1 cC (aa (aF (bz (aa (mv 10) (aa (mv 11) ah)))) ah))) (mv 2)) E2 s=.ok (!decide (cG [r,k]=cG [r0,k0,e] - ((w+d:Int):Rat))) s:=jh (ax s2 rfl (uS s _ _))
 have z0:Sz 901 (0:Rat):=xm.mono (by decide)
 have z1:Sz 901 (1:Rat):=⟨(cA (n:=2) (by decide) (by decide)).mono (by decide),(cA (n:=2) (by decide) (by decide)).mono (by decide)⟩
 have c2:iM (cT (aj 2 b_ (aa (mv 7) (aa (mc c8) ah)))) (cT (aj 2 b_ (aa (mv 4) (aa (mv 7) ah)))) E2 s=.ok (decide (f.num * (0:Rat).den < (0:Rat).num * f.den) || decide (k0.num * f.den < f.num * k0.den)) s:=
  iT (bX (call2 rfl rfl (gb s (u h.f) z0))) λ _=>bX (call2 rfl rfl (gb s (u h0.k) (u h.f)))
 have c3:iM (cT (aj 2 b_ (aa (mv 11) (aa (mc c8) ah)))) (cF (cT (aj 2 b_ (aa (mv 10) (aa (mc tf) ah))))) E2 s=.ok (decide (k.num * (0:Rat).den < (0:Rat).num * k.den) || !decide (r.num * (1:Rat).den < (1:Rat).num * r.den)) s:=
  iT (bX (call2 rfl rfl (gb s (u h.k) z0))) λ _=>aJ (bX (call2 rfl rfl (gb s (u h.r) z1)))
 have c4:zI (af bI (mv 9) (mc (.int 0))) (b9 bI bI (mv 12) (mv 13) (mc (.int 0))) E2 s=.ok (.bl (decide (d=0) || (decide (g=a) && decide (a=0)))) s:=
  uO (ax rfl rfl rfl) λ _=>oJ rfl rfl rfl rfl rfl
 have all:=i_ c1 λ _=>i_ c2 λ _=>i_ c3 λ _=>dZ c4
 refine cq ?_
 refine Eq.trans (show _=au (aO 2 (aj 2 bS (aa (aT (aa (af av (mv 8) (mv 9)) (aa (mc (.int 1)) ah))) (aa (gu (aj 1 cC (aa (aF (bz (aa (mv 3) (aa (mv 4) (aa (mv 6) ah))))) ah))) ah)))) _ E s from rfl) ?_
 have e2:aO 2 (aj 2 bS (aa (aT (aa (af av (mv 8) (mv 9)) (aa (mc (.int 1)) ah))) (aa (gu (aj 1 cC (aa (aF (bz (aa (mv 3) (aa (mv 4) (aa (mv 6) ah))))) ah))) ah))) E s=.nx E2 s:=by
  unfold aO
  rw[Q8];rfl
 unfold au
 rw[e2]
 refine all.trans ?_
 unfold oz
 have y1:=Dx f
 have y2:=Dx k
 have y3:=Dw r
 have y4:(decide (g=a) && decide (a=0))=(decide (g=0) && decide (a=0)):=by
  by_cases h1:a=0
  ·subst h1;rfl
  ·simp[h1]
 rw[y1,y2,y3,y4]
 generalize decide (cG [r,k]=_)=b1
 generalize decide (0<=f.num)=b2
 generalize decide (k0.num * _ < _)=b3
 generalize decide (0<=k.num)=b4
 generalize decide (r.num < _)=b5
 cases b1<;>cases b2<;>cases b3<;>cases b4<;>cases b5<;>rfl
theorem Ll (a b c:Rat)(w d:Int):cG [a,b,c,((-w - d:Int):Rat)]=cG [a,b,c] - ((w+d:Int):Rat):=by
 have e:((-w - d:Int):Rat)=-((w+d:Int):Rat):=by
  rw[show(-w - d:Int)=-(w+d) by omega,Rat.intCast_neg]
 rw[e]
 simp only[cG,Rat.sub_eq_add_neg,Rat.add_assoc,Rat.add_zero]
theorem CJ {p0 p:Str}{e0 f0:Rat}{w0 d0:Int}{r0 k0:Rat}{g0 a0:Int}{e f:Rat}{w d:Int}{r k:Rat}{g a:Int}(s:S)(h0:oU e0 f0 w0 d0 r0 k0)(h:oU e f w d r k)(hg:0<=g)(ha:0<=a) :
  je [eI p0 e0 f0 w0 d0 r0 k0 g0 a0,eI p e f w d r k g a] s=.ok (.bl (oz r0 k0 e f w d r k g a)) s:=by
 have u:∀ {q:Rat},Sz 900 q->Sz 901 q:=λ h=>h.mono (by decide)
 let E:En:=[some (eI p0 e0 f0 w0 d0 r0 k0 g0 a0),some (eI p e f w d r k g a),none]
 have m4:∀ q∈[r0,k0,e,((-w - d:Int):Rat)],Sz 901 q:=by
  intro q hq
  simp only[List.mem_cons,List.not_mem_nil,or_false]at hq
  rcases hq with rfl|rfl|rfl|rfl
  ·exact u h0.r
  ·exact u h0.k
  ·exact u h.e
  ·refine jM ?_ (by decide)
   rw[show -w - d=-w+-d by omega]
   exact h.w.neg.add h.d.neg
 have m2:∀ q∈[r,k],Sz 901 q:=by
  intro q hq
  simp only[List.mem_cons,List.not_mem_nil,or_false]at hq
  rcases hq with rfl|rfl
  ·exact u h.r
  ·exact u h.k
 have L7:aa (af ai (mv 0) (mc (.int 5))) (aa (af ai (mv 0) (mc (.int 6))) (aa (af ai (mv 1) (mc (.int 1))) (aa (aT (aa (af fh (cK cn (af ai (mv 1) (mc (.int 3)))) (af ai (mv 1) (mc (.int 4)))) (aa (mc (.int 1)) ah))) ah))) E s=.ok ([r0,k0,e,((-w - d:Int):Rat)].map fq) s:=by
  have t:=cj (r:=aa (af fh (cK cn (af ai (mv 1) (mc (.int 3)))) (af ai (mv 1) (mc (.int 4)))) (aa (mc (.int 1)) ah)) (env:=E) (s:=s) (vs:=[.int (-w - d),.int 1]) rfl (by simp)
  have e5:af ai (mv 0) (mc (.int 5)) E s=.ok (fq r0) s:=rfl
  have e6:af ai (mv 0) (mc (.int 6)) E s=.ok (fq k0) s:=rfl
  have e1:af ai (mv 1) (mc (.int 1)) E s=.ok (fq e) s:=rfl
  unfold aa
  rw[e5,ao,e6,ao,e1,ao]
  unfold aa at t
  rw[t]
  rfl
 have s4:=CI (F:=dG) (l:=[r0,k0,e,((-w - d:Int):Rat)]) (dy L7 (by simp)) λ st v gs hw=>v9 (by decide:4400<=4400) hw (nv _ 0 2 xm m4 (by simp))
 rw[Ll]at s4
 let E2:En:=[some (eI p0 e0 f0 w0 d0 r0 k0 g0 a0),some (eI p e f w d r k g a),some (fq (cG [r0,k0,e] - ((w+d:Int):Rat)))]
 have s2:gu (aj 1 dG (aa (aF (bz (aa (af ai (mv 1) (mc (.int 5))) (aa (af ai (mv 1) (mc (.int 6))) ah)))) ah)) E2 s=.ok (fq (cG [r,k])) s:=
  CI (l:=[r,k]) (dy rfl (by simp)) λ st v gs hw=>v9 (by decide:4400<=4400) hw (nv _ 0 2 xm m2 (by simp))
 have b:∀ {i:Int},bw 900 i->rZ i:=λ h=>a5 h (by decide)
 have f0:af ai (af ai (mv 1) (mc (.int 2))) (mc (.int 0)) E2 s=.ok (.int f.num) s:=rfl
 have f1:af ai (af ai (mv 1) (mc (.int 2))) (mc (.int 1)) E2 s=.ok (.int f.den) s:=rfl
 have k1:af ai (af ai (mv 1) (mc (.int 6))) (mc (.int 0)) E2 s=.ok (.int k.num) s:=rfl
 have q0:af ai (af ai (mv 0) (mc (.int 6))) (mc (.int 0)) E2 s=.ok (.int k0.num) s:=rfl
 have q1:af ai (af ai (mv 0) (mc (.int 6))) (mc (.int 1)) E2 s=.ok (.int k0.den) s:=rfl
 have t0:af ai (af ai (mv 1) (mc (.int 5))) (mc (.int 0)) E2 s=.ok (.int r.num) s:=rfl
 have t1:af ai (af ai (mv 1) (mc (.int 5))) (mc (.int 1)) E2 s=.ok (.int r.den) s:=rfl
 have c1:=iT (jh (ax s2 (show mv 2 E2 s=_ from rfl) (uS s _ _))) λ _=>iT (jh (ax (op:=ee) (m2:=mc (.int 0)) f0 rfl rfl)) λ _=>jh (ax (op:=ee) (m2:=mc (.int 0)) k1 rfl rfl)
 have c2:=iT (jh (ax (op:=jQ) (ax f0 q1 (ie (b h.f.a) (b h0.k.b))) (ax q0 f1 (ie (b h0.k.a) (b h.f.b))) rfl)) λ _=>jh (ax (op:=jR) t0 t1 rfl)
 have c4:zI (af bI (af ai (mv 1) (mc (.int 4))) (mc (.int 0))) (af bI (af av (af ai (mv 1) (mc (.int 7))) (af ai (mv 1) (mc (.int 8)))) (mc (.int 0))) E2 s=.ok (.bl (decide (d=0) || decide (g+a=0))) s:=
  uO rfl λ _=>rfl
 have all:=i_ c1 λ _=>i_ c2 λ _=>dZ c4
 refine cq ?_
 have e2:aO 2 (gu (aj 1 dG (aa (aF (bz (aa (af ai (mv 0) (mc (.int 5))) (aa (af ai (mv 0) (mc (.int 6))) (aa (af ai (mv 1) (mc (.int 1))) (aa (aT (aa (af fh (cK cn (af ai (mv 1) (mc (.int 3)))) (af ai (mv 1) (mc (.int 4)))) (aa (mc (.int 1)) ah))) ah)))))) ah))) E s=.nx E2 s:=by
  unfold aO
  rw[s4];rfl
 show au _ _ E s=_
 unfold au
 rw[e2]
 refine all.trans ?_
 unfold oz
 have y1:decide (f.num < 0)=!decide (0<=f.num):=by rw[<-decide_not];apply decide_eq_decide.mpr;omega
 have y2:decide (k.num < 0)=!decide (0<=k.num):=by rw[<-decide_not];apply decide_eq_decide.mpr;omega
 have y3:decide ((r.den:Int)<=r.num)=!decide (r.num < r.den):=by rw[<-decide_not];apply decide_eq_decide.mpr;omega
 have y4:decide (g+a=0)=(decide (g=0) && decide (a=0)):=by
  rw[Bool.eq_iff_iff];simp;omega
 rw[y1,y2,y3,y4]
 generalize decide (cG [r,k]=_)=b1
 generalize decide (0<=f.num)=b2
 generalize decide (k0.num * _ < _)=b3
 generalize decide (0<=k.num)=b4
 generalize decide (r.num < _)=b5
 cases b1<;>cases b2<;>cases b3<;>cases b4<;>cases b5<;>rfl
def bP:AV->Str
 | .tup (.str t :: _)=>t
 | _=>""
def xM (a b:Str):Bool:=decide (a.cps.toList < b.cps.toList)
theorem lO (a b:Str):xM a b=!mC b a:=by unfold xM mC;simp
theorem zK {a b:Str}(h:xM a b=true):mC a b=true:=pV _ _ (by rw[lO]at h;simpa using h)
theorem xK {a b c:Str}(h:xM a b=true)(k:xM b c=true):xM a c=true:=by
 rw[lO]
 cases q:mC c a with
 | false=>rfl
 | true=>
  have:=lP q (zK h)
  rw[lO,this]at k;cases k
theorem FN {a b:Str}(h:xM a b=true):a≠b:=by
 rintro rfl
 rw[lO,zR]at h;cases h
def dn:List Str->Bool
 | a :: b :: r=>xM a b && dn (b :: r)
 | _=>true
theorem nG:∀ {l:List Str},dn l=true->l.Pairwise (λ a b=>xM a b=true)
 | [],_=>.nil
 | [a],_=>List.pairwise_singleton _ _
 | a :: b :: r,h=>by
  obtain⟨h1,h2⟩:=Bool.and_eq_true_iff.mp h
  have ih:=nG h2
  refine List.pairwise_cons.mpr ⟨λ x hx=>?_,ih⟩
  rcases List.mem_cons.mp hx with rfl|hx
  ·exact h1
  ·exact xK h1 ((List.pairwise_cons.mp ih).1 x hx)
theorem jP:∀ {l:List Str},l.Pairwise (λ a b=>xM a b=true)->dn l=true
 | [],_=>rfl
 | [a],_=>rfl
 | a :: b :: r,h=>Bool.and_eq_true_iff.mpr ⟨(List.pairwise_cons.mp h).1 b (.head _),jP (List.pairwise_cons.mp h).2⟩
theorem wI {K:Type} [DecidableEq K]:∀ (l ks:List K),(ks++l).Nodup->l.foldl Sx.iK ks=ks++l
 | [],ks,_=>by simp
 | a :: r,ks,h=>by
  have ha:a∉ks:=λ q=>(List.nodup_append.mp h).2.2 a q a (.head _) rfl
  show r.foldl Sx.iK (Sx.iK ks a)=_
  rw[show Sx.iK ks a=ks++[a] from if_neg ha,wI r (ks++[a]) (by simpa using h)]
  simp
theorem oB {K:Type} [DecidableEq K]:∀ (l ks:List K),ks.Nodup->(l.foldl Sx.iK ks).Nodup
 | [],_,h=>h
 | a :: r,ks,h=>oB r _ (Sx.u5 h)
theorem xu (l:List Str):dn l=decide (l=df (Sx.uniq l)):=by
 rw[Bool.eq_iff_iff,decide_eq_true_iff]
 constructor
 ·intro h
  have p:=nG h
  have nd:l.Nodup:=p.imp λ h=>FN h
  rw[show Sx.uniq l=l from(wI l [] (by simpa using nd)).trans (List.nil_append _)]
  exact jN (.refl _) (p.imp λ h=>zK h)
 ·intro h
  have nd:l.Nodup:=by
   rw[h]
   exact(eL _).nodup_iff.mpr (oB l [] .nil)
  have p:l.Pairwise (λ x y=>mC x y=true):=by rw[h];exact fO _
  refine jP ((p.and nd).imp λ {a b} h=>?_)
  rw[lO]
  cases q:mC b a with
  | false=>rfl
  | true=>exact absurd (nZ h.1 q) h.2
theorem pD:∀ l:List Str,((l.zip (l.drop 1)).all λ p=>xM p.1 p.2)=dn l
 | []=>rfl
 | [a]=>rfl
 | a :: b :: r=>by
  have:=pD (b :: r)
  simp only[List.drop_succ_cons,List.drop_zero]at this ⊢
  rw[List.zip_cons_cons,List.all_cons,this]
  rfl
def xR:AV->Bool
 | .sq _=>true
 | _=>false
structure mW (s:S)(v:AV):Prop where
 leaf:dD s v
 sq:xR v=false
 rows:∀ xs,items v s=some xs->xs.length<=60/\∀ x∈xs,jS 2 s x
def dt (s:S)(v:AV):Bool:=match items v s with
 | some xs=>xs.all dj && dn (xs.map bP)
 | none=>false
theorem Bc {s z:S}{v:AV}{t:String}(h:cf v s=some t):cf v (s++z)=some t:=by
 cases v with
 | ref i=>
  simp only[cf]at h ⊢
  cases e:s[i]? with
  | none=>rw[e]at h;cases h
  | some o=>rw[List.getElem?_append_left (List.getElem?_eq_some_iff.mp e).1,e];rw[e]at h;exact h
 | _=>exact h
theorem kP {s z:S}{v:AV}(h:dD s v):dD (s++z) v:=by
 obtain⟨⟨t,ht⟩,h⟩:=h
 exact⟨⟨t,Bc ht⟩,h⟩
theorem vY {s z:S}:∀ {n:Nat}{v:AV},jS n s v->jS n (s++z) v
 | 0,_,h=>kP h
 | n+1,v,h=>⟨kP h.1,λ xs e=>⟨(h.2 xs e).1,λ x hx=>vY ((h.2 xs e).2 x hx)⟩⟩
theorem g6 {s z:S}{v:AV}(h:dD s v):items v (s++z)=items v s:=by
 cases v with
 | ref i=>
  obtain⟨⟨t,ht⟩,_⟩:=h
  simp only[cf]at ht
  show aq (s++z) i=aq s i
  cases e:s[i]? with
  | none=>rw[e]at ht;cases ht
  | some o=>unfold aq;rw[List.getElem?_append_left (List.getElem?_eq_some_iff.mp e).1,e]
 | _=>rfl
theorem qN {s z:S}{v:AV}(h:mW s v):mW (s++z) v:=by
 refine⟨kP h.leaf,h.sq,λ xs e=>?_⟩
 rw[g6 h.leaf]at e
 exact⟨(h.rows xs e).1,λ x hx=>vY ((h.rows xs e).2 x hx)⟩
theorem zJ {s:S}{v:AV}{m:Ev}{env:En}(h:dD s v)(e:m env s=.ok v s):cK ib m env s=.ok (.bl (items v s).isSome) s:=by
 refine vy e ?_
 obtain⟨⟨t,ht⟩,_⟩:=h
 unfold ib
 rw[ht]
 show R.ok (AV.bl (isLT t)) s=_
 congr 2
 cases v with
 | ref i=>
  simp only[cf]at ht
  show _=(aq s i).isSome
  unfold aq
  cases e:s[i]? with
  | none=>rw[e]at ht;cases ht
  | some o=>rw[e]at ht;cases o<;>first|(cases ht;rfl)|cases ht
 | _=>cases ht;rfl
theorem uH {s:S}{v:AV}{xs:List AV}{m:Ev}{env:En}(h:items v s=some xs)(e:m env s=.ok v s):∃ gs,aV m env s=.ok (xs,gs) s/\mG gs s:=by
 unfold aV
 rw[e,ao]
 cases v with
 | tup ys=>cases h;exact⟨[],rfl,bu s⟩
 | sq ys=>cases h;exact⟨[],rfl,bu s⟩
 | ref i=>
  have h:aq s i=some xs:=h
  refine⟨[(i,xs)],?_,(Mm.m5 i xs s).mpr h⟩
  show need (aq s i) _=_
  rw[h];rfl
 | _=>cases h
theorem vK {F:List AV->S->R AV}{l:Lc}{s:S}{v:AV}{xs:List AV}{m:Ev}{env:En}(hv:mW s v)(h:items v s=some xs)(e:m env s=.ok v s)(e2:hU l env=[none])(hF:∀ x,jS 2 s x->F [x] s=.ok (.bl (dj x)) s) :
  dm dC (aK l (aV m) (gN 0) bE (aj 1 F (aa (mv 0) ah))) env s=.ok (.bl (xs.all dj)) s:=by
 obtain⟨gs,e1,hg⟩:=uH h e
 obtain⟨RT,hr⟩:=hv.rows xs h
 exact all_map dj e1 (Nat.le_of_lt (a4 (by omega))) hg e2 λ x hx=>oM rfl (hF x (hr x hx))
theorem ql {elt:Ev}{gs:Gd}{s:S}(g:AV->AV->AV)(hg:mG gs s):∀ (xs:List (AV × AV)) (acc:List AV) (x y:Option AV),(∀ p∈xs,elt [some p.1,some p.2] s=.ok (g p.1 p.2) s)->dQ (gT 2 (aw (gN 0) (aw (gN 1) cZ))) bE elt gs (xs.map λ p=>.tup [p.1,p.2]) [x,y] s acc=.ok (acc++xs.map λ p=>g p.1 p.2) s
 | [],acc,x,y,_=>by unfold dQ;simp only[List.map_nil];rw[if_pos hg];simp
 | p :: r,acc,x,y,h=>by
  simp only[List.map_cons]
  unfold dQ
  rw[if_pos hg]
  show((elt [some p.1,some p.2] s).calm.bind λ x s3=>dQ (gT 2 (aw (gN 0) (aw (gN 1) cZ))) bE elt gs (r.map λ p=>.tup [p.1,p.2]) [some p.1,some p.2] s3 (acc++[x]))=_
  rw[h p (.head _)]
  show dQ (gT 2 (aw (gN 0) (aw (gN 1) cZ))) bE elt gs (r.map λ p=>.tup [p.1,p.2]) [some p.1,some p.2] s (acc++[g p.1 p.2])=_
  rw[ql g hg r _ _ _ λ w hw=>h w (.tail _ hw)]
  simp
theorem uk {l:Lc}{src:Src}{elt:Ev}{env:En}{s s1:S}{xs:List (AV × AV)}{gs:Gd}(f:AV->AV->Bool)(e1:src env s=.ok (xs.map λ p=>AV.tup [p.1,p.2],gs) s1) (hl:xs.length<=1000)(hg:mG gs s1)(e2:hU l env=[none,none])(h:∀ p∈xs,elt [some p.1,some p.2] s1=.ok (.bl (f p.1 p.2)) s1) :
  dm dC (aK l src (gT 2 (aw (gN 0) (aw (gN 1) cZ))) bE elt) env s=.ok (.bl (xs.all λ p=>f p.1 p.2)) s1:=by
 unfold dm aK
 rw[e1,dz,if_pos (by simp only[List.length_map];exact Nat.le_of_lt (a4 hl)),e2,ql (λ a b=>.bl (f a b)) hg xs [] none none h]
 show(need (jB (xs.map λ p=>AV.bl (f p.1 p.2))) λ ns=>R.ok (AV.bl (ns.all id)) s1)=_
 have:∀ l:List (AV × AV),jB (l.map λ p=>AV.bl (f p.1 p.2))=some (l.map λ p=>f p.1 p.2):=by
  intro l
  induction l with
  | nil=>rfl
  | cons p r ih=>simp only[List.map_cons,jB,ih];rfl
 rw[this]
 show R.ok (AV.bl ((xs.map λ p=>f p.1 p.2).all id)) s1=_
 rw[List.all_map];rfl
theorem J1 {α:Type}(x:α)(xs:List α):de (x :: xs) (some 1) none=xs:=by
 unfold de
 have h1:HT.cP (x :: xs).length 0 (some 1)=1:=by unfold HT.cP;simp
 have h2:HT.cP (x :: xs).length (x :: xs).length none=(x :: xs).length:=rfl
 rw[h1,h2]
 simp
theorem cutD {α:Type}(xs:List α):de xs (some 1) none=xs.drop 1:=by
 cases xs with
 | nil=>rfl
 | cons x r=>exact J1 x r
theorem HV {s:S}{v:AV}{xs:List AV}(hq:xR v=false)(h:items v s=some xs):∃ w z gs,gW (mv 0) (oS (mc (.int 1))) oN [some v] s=.ok w (s++z)/\uv v w (s++z)=some ((xs.zip (xs.drop 1)).map λ p=>AV.tup [p.1,p.2],gs)/\mG gs (s++z):=by
 cases v with
 | tup ys=>
  cases h
  refine⟨.tup (de xs (some 1) none),[],[],by rw[List.append_nil];rfl,?_,bu _⟩
  rw[cutD]
  rfl
 | ref i=>
  have h:aq s i=some xs:=h
  refine⟨.ref s.length,[.lst (xs.drop 1)],[(i,xs),(s.length,xs.drop 1)],?_,?_,?_⟩
  ·show(need (aq s i) λ xs=>R.ok (AV.ref s.length) (s++[.lst (de xs (some 1) none)]))=_
   rw[h,<-cutD];rfl
  ·have e1:sD (kindOf (.ref i)) (.ref i) (s++[.lst (xs.drop 1)])=some (xs,[(i,xs)]):=by
    show(aq (s++[.lst (xs.drop 1)]) i).map _=_
    rw[aL h];rfl
   have e2:sD (kindOf (.ref s.length)) (.ref s.length) (s++[.lst (xs.drop 1)])=some (xs.drop 1,[(s.length,xs.drop 1)]):=by
    show(aq (s++[.lst (xs.drop 1)]) s.length).map _=_
    rw[aE];rfl
   unfold uv
   rw[if_neg (by simp[kindOf]),e1,e2]
   rfl
  ·intro p hp
   simp only[List.mem_cons,List.not_mem_nil,or_false]at hp
   rcases hp with rfl|rfl
   ·exact aL h
   ·exact aE _ _
 | sq ys=>cases hq
 | _=>cases h
theorem zp {x:AV}(h:dj x=true)(s:S):ai x (.int 0) s=.ok (.str (bP x)) s:=by
 obtain⟨p,e,f,w,d,r,k,g,a,rfl,_⟩:=i7 h
 rfl
theorem g7 {s:S}{v:AV}(h:mW s v):∃ z,bM [v] s=.ok (.bl (dt s v)) (s++z):=by
 cases hi:items v s with
 | none=>
  refine⟨[],?_⟩
  rw[List.append_nil]
  unfold dt
  rw[hi]
  refine cq (i8 (qI (aJ (x:=false) (bX ?_))))
  have:=zJ (m:=mv 0) (env:=[some v]) h.leaf rfl
  rw[hi]at this
  exact this
 | some xs=>
  have k1:cK ib (mv 0) [some v] s=.ok (.bl true) s:=by
   have:=zJ (m:=mv 0) (env:=[some v]) h.leaf rfl
   rw[hi]at this
   exact this
  have k2:=vK (F:=cD) (l:=[("row",none)]) (m:=mv 0) (env:=[some v]) h hi rfl rfl λ x hx=>mD hx
  cases ha:xs.all dj with
  | false=>
   rw[ha]at k2
   refine⟨[],?_⟩
   rw[List.append_nil]
   unfold dt
   rw[hi]
   dsimp only
   rw[ha]
   exact cq (i8 (h_ (aJ (x:=true) (bX k1)) (aJ (x:=false) (bX k2))))
  | true=>
   rw[ha]at k2
   obtain⟨w,z,gs,e1,e2,hg⟩:=HV h.sq hi
   refine⟨z,?_⟩
   have src:jC (mv 0) (gW (mv 0) (oS (mc (.int 1))) oN) [some v] s=.ok ((xs.zip (xs.drop 1)).map λ p=>AV.tup [p.1,p.2],gs) (s++z):=by
    unfold jC
    show((gW (mv 0) (oS (mc (.int 1))) oN [some v] s).bind _)=_
    rw[e1,ao,e2];rfl
   have hl:=(h.rows xs hi).1
   have k3:=uk (l:=[("row",none),("later",none)]) (elt:=af ee (af ai (mv 0) (mc (.int 0))) (af ai (mv 1) (mc (.int 0)))) (λ a b=>xM (bP a) (bP b)) src (by rw[List.length_zip];omega) hg rfl λ p hp=>by
    have h1:=List.all_eq_true.mp ha p.1 (List.of_mem_zip hp).1
    have h2:=List.all_eq_true.mp ha p.2 (List.mem_of_mem_drop (List.of_mem_zip hp).2)
    exact ax (ax rfl rfl (zp h1 _)) (ax rfl rfl (zp h2 _)) rfl
   have k4:((xs.zip (xs.drop 1)).all λ p=>xM (bP p.1) (bP p.2))=dn (xs.map bP):=by
    rw[<-pD,<-List.map_drop,List.zip_map,List.all_map]
    rfl
   rw[k4]at k3
   unfold dt
   rw[hi]
   dsimp only
   rw[ha,Bool.true_and]
   unfold bM gh
   show(match dA [some v] s with|.rt v s1=>R.ok v s1|.nx _ s1=>.ok .aY s1|.ex c s1=>.ex c s1|_=>.bad)=_
   have:dA [some v] s=.rt (.bl (dn (xs.map bP))) (s++z):=by
    refine og (h_ (aJ (x:=true) (bX k1)) (aJ (x:=true) (bX k2))) ?_
    unfold aU
    rw[k3];rfl
   rw[this]
theorem toD_strs (n:Nat)(s:S):∀ ns:List Str,(ns.map AV.str).mapM (toD n s)=some (ns.map Dt.str)
 | []=>rfl
 | a :: r=>by rw[List.map_cons,List.mapM_cons,show toD n s (.str a)=some (.str a) by unfold toD;rfl,toD_strs n s r];rfl
theorem qj:∀ ns:List Str,dH (ns.map Dt.str)=0
 | []=>by simp[dH]
 | a :: r=>by simp[dH,Dt.dep,qj r]
theorem qh:∀ ns ms:List Str,dv (ns.map Dt.str) (ms.map Dt.str)=decide (ns=ms)
 | [],[]=>by simp[dv]
 | [],b :: r=>by simp[dv]
 | a :: r,[]=>by simp[dv]
 | a :: r,b :: q=>by
  simp only[List.map_cons,dv,cN,qh r q]
  by_cases h1:a=b<;>by_cases h2:r=q<;>simp[h1,h2]
theorem l8 {s:S}{i j:Nat}{ns ms:List Str}(h1:aq s i=some (ns.map AV.str)) (h2:aq s j=some (ms.map AV.str)):mK s (.ref i) (.ref j)=some (decide (ns=ms)):=by
 have t:∀ {i:Nat}{ns:List Str},aq s i=some (ns.map AV.str)->toD 20 s (.ref i)=some (.lst (ns.map Dt.str)):=λ {i ns} h=>by
  simp only[toD,h,Option.bind_some,toD_strs,Option.map_some]
 unfold mK
 simp only
 rw[t h1,t h2]
 dsimp only
 rw[if_pos (by rw[qj];omega),qh]
theorem kK {l:Lc}{s:S}{v:AV}{xs:List AV}{m:Ev}{env:En}(hv:mW s v)(h:items v s=some xs)(hr:xs.all dj=true)(e:m env s=.ok v s)(e2:hU l env=[none]) :
  aK l (aV m) (gN 0) bE (af ai (mv 0) (mc (.int 0))) env s=.ok ((xs.map bP).map AV.str) s:=by
 obtain⟨gs,e1,hg⟩:=uH h e
 unfold aK
 have hl:xs.length<=sizeLine:=Nat.le_of_lt (a4 (by have:=(hv.rows xs h).1;omega))
 rw[e1,ao,if_pos hl,e2,comp_map (λ x=>.str (bP x)) hg xs [] none λ x hx=>ax rfl rfl (zp (List.all_eq_true.mp hr x hx) _)]
 simp
theorem cJ {L:dR}{env:En}{s:S}{xs:List AV}(h:L env s=.ok xs s):aF L env s=.ok (.ref s.length) (s++[.lst xs]):=by unfold aF;rw[h];rfl
theorem zt {A B:Ev}{env:En}{s s1 s2:S}{v1 v2:AV}{b:Bool}(a1:A env s=.ok v1 s1)(a2:B env s1=.ok v2 s2)(a3:cY v1 v2 s2=.ok (.bl b) s2) (t:s2.take s.length=s):xY (cB (af cY A B)) env s=.ok b s:=by
 unfold xY cB af
 rw[a1,ao,a2,ao,a3,ao,ao,if_pos t]
theorem zu {l l2:Lc}{s:S}{v w:AV}{xs ys:List AV}{m m2:Ev}{env:En}(hv:mW s v)(hw:mW s w)(h:items v s=some xs)(k:items w s=some ys)(hr:xs.all dj=true)(kr:ys.all dj=true)(e:m env s=.ok v s)(e':∀ st,m2 env st=.ok w st)(e2:hU l env=[none])(e3:hU l2 env=[none]) :
  xY (cB (af cY (aF (aK l (aV m) (gN 0) bE (af ai (mv 0) (mc (.int 0))))) (aF (aK l2 (aV m2) (gN 0) bE (af ai (mv 0) (mc (.int 0))))))) env s=.ok (!decide (xs.map bP=ys.map bP)) s:=by
 have a1:=cJ (kK (l:=l) hv h hr e e2)
 have a2:=cJ (kK (l:=l2) (s:=s++[.lst ((xs.map bP).map AV.str)]) (qN hw) (by rw[g6 hw.leaf];exact k) kr (e' _) e3)
 have a3:cY (.ref s.length) (.ref (s++[AO.lst ((xs.map bP).map AV.str)]).length) (s++[.lst ((xs.map bP).map AV.str)]++[.lst ((ys.map bP).map AV.str)])=.ok (.bl (!decide (xs.map bP=ys.map bP))) (s++[.lst ((xs.map bP).map AV.str)]++[.lst ((ys.map bP).map AV.str)]):=by
  unfold cY
  rw[l8 (aL (aE s _)) (aE _ _)];rfl
 exact zt a1 a2 a3 (by rw[List.append_assoc,List.take_left'];rfl)
def xx:AV->Rat
 | .tup [.int a,.int b]=>Rat.divInt a b
 | _=>0
def Kr:AV->Int
 | .int i=>i
 | _=>0
def yp:AV->AV->Bool
 | .tup [_,_,_,_,_,r0,k0,_,_],.tup [_,e,f,w,d,r,k,g,a]=>oz (xx r0) (xx k0) (xx e) (xx f) (Kr w) (Kr d) (xx r) (xx k) (Kr g) (Kr a)
 | _,_=>false
theorem EB (q:Rat):xx (fq q)=q:=Rat.num_divInt_den q
theorem rg (p0 p:Str)(e0 f0:Rat)(w0 d0:Int)(r0 k0:Rat)(g0 a0:Int)(e f:Rat)(w d:Int)(r k:Rat)(g a:Int):yp (eI p0 e0 f0 w0 d0 r0 k0 g0 a0) (eI p e f w d r k g a)=oz r0 k0 e f w d r k g a:=by
 show oz (xx (fq r0)) (xx (fq k0)) (xx (fq e)) (xx (fq f)) w d (xx (fq r)) (xx (fq k)) g a=_
 simp only[EB]
theorem C3 {s:S}{x y:AV}(hx:dj x=true)(hy:dj y=true)(ox:jS 2 s x)(oy:jS 2 s y):bL [x,y] s=.ok (.bl (yp x y)) s/\je [x,y] s=.ok (.bl (yp x y)) s:=by
 obtain⟨p0,e0,f0,w0,d0,r0,k0,g0,a0,rfl,_⟩:=i7 hx
 obtain⟨p,e,f,w,d,r,k,g,a,rfl,_,_,hg,ha⟩:=i7 hy
 rw[rg]
 exact⟨xn s (lE ox) (lE oy) hg ha,CJ s (lE ox) (lE oy) hg ha⟩
theorem DT {s:S}{v w:AV}{xs ys:List AV}(hv:xR v=false)(hw:xR w=false)(h:items v s=some xs)(k:items w s=some ys)(hk:¬ (kindOf v=false/\kindOf w=true)):∃ gs,uv v w s=some ((xs.zip ys).map λ p=>AV.tup [p.1,p.2],gs)/\mG gs s:=by
 have one:∀ {v:AV}{xs:List AV},xR v=false->items v s=some xs->∃ gs,sD (kindOf v) v s=some (xs,gs)/\mG gs s:=by
  intro v xs hv h
  cases v with
  | tup zs=>cases h;exact⟨[],rfl,bu s⟩
  | sq zs=>cases hv
  | ref i=>
   have h:aq s i=some xs:=h
   refine⟨[(i,xs)],?_,(Mm.m5 i xs s).mpr h⟩
   show(aq s i).map _=_
   rw[h];rfl
  | _=>cases h
 obtain⟨g1,e1,o1⟩:=one hv h
 obtain⟨g2,e2,o2⟩:=one hw k
 refine⟨g1++g2,?_,λ p hp=>(List.mem_append.mp hp).elim (o1 p) (o2 p)⟩
 unfold uv
 rw[if_neg hk,e1,e2]
 rfl
def fB (s:S)(v w:AV):Bool:=dt s v && (dt s w && (decide ((items v s).map (List.map bP)=(items w s).map (List.map bP)) && match items v s,items w s with
 | some xs,some ys=>(xs.zip ys).all λ p=>yp p.1 p.2
 | _,_=>false))
theorem An {F:List AV->S->R AV}{m:Ev}{env:En}{s z:S}{v:AV}{b:Bool}(e:m env s=.ok v s)(h:F [v] s=.ok (.bl b) (s++z)):gu (aj 1 F (aa m ah)) env s=.ok (.bl b) s:=by
 have e1:aj 1 F (aa m ah) env s=.ok (.bl b) (s++z):=by
  unfold aj aa ah
  rw[e];exact h
 unfold gu
 rw[e1,ao,if_pos ⟨by rw[List.take_left'] ;rfl,rfl⟩]
theorem vz {s:S}{v:AV}(h:dt s v=true):∃ xs,items v s=some xs/\xs.all dj=true/\dn (xs.map bP)=true:=by
 unfold dt at h
 split at h
 ·rename_i xs e;obtain⟨h1,h2⟩:=Bool.and_eq_true_iff.mp h;exact⟨xs,e,h1,h2⟩
 ·cases h
def Pair (s:S)(v w:AV):Prop:=∀ xs ys,items v s=some xs->items w s=some ys->xs.map bP=ys.map bP->¬ (kindOf v=false/\kindOf w=true)
theorem sJ {F:List AV->S->R AV}{l:Lc}{s:S}{v w:AV}{xs ys:List AV}{m m2:Ev}{env:En}(hv:mW s v)(hw:mW s w)(h:items v s=some xs)(k:items w s=some ys)(hr:xs.all dj=true)(kr:ys.all dj=true)(hk:¬ (kindOf v=false/\kindOf w=true)) (e:m env s=.ok v s)(e':m2 env s=.ok w s)(e2:hU l env=[none,none])
  (hF:∀ x y,dj x=true->dj y=true->jS 2 s x->jS 2 s y->F [x,y] s=.ok (.bl (yp x y)) s) :
  dm dC (aK l (jC m m2) (gT 2 (aw (gN 0) (aw (gN 1) cZ))) bE (aj 2 F (aa (mv 0) (aa (mv 1) ah)))) env s=.ok (.bl ((xs.zip ys).all λ p=>yp p.1 p.2)) s:=by
 obtain⟨gs,e3,hg⟩:=DT hv.sq hw.sq h k hk
 have src:jC m m2 env s=.ok ((xs.zip ys).map λ p=>AV.tup [p.1,p.2],gs) s:=by
  unfold jC
  rw[e,ao,e',ao,e3];rfl
 obtain⟨l1,o1⟩:=hv.rows xs h
 obtain⟨l2,o2⟩:=hw.rows ys k
 refine uk yp src (by rw[List.length_zip];omega) hg e2 λ p hp=>?_
 have h1:=(List.of_mem_zip hp).1
 have h2:=(List.of_mem_zip hp).2
 exact call2 rfl rfl (hF _ _ (List.all_eq_true.mp hr _ h1) (List.all_eq_true.mp kr _ h2) (o1 _ h1) (o2 _ h2))
theorem yN {s:S}{v w:AV}(hv:mW s v)(hw:mW s w)(hp:Pair s v w):bc [v,w] s=.ok (.bl (fB s v w)) s:=by
 obtain⟨z1,i1⟩:=g7 hv
 obtain⟨z2,i2⟩:=g7 hw
 have c1:=An (m:=mv 0) (env:=[some v,some w]) rfl i1
 have c2:=An (m:=mv 1) (env:=[some v,some w]) rfl i2
 unfold fB
 cases t1:dt s v with
 | false=>
  rw[t1]at c1
  exact cq (i8 (qI (aJ (x:=false) (bX c1))))
 | true=>
  rw[t1]at c1
  cases t2:dt s w with
  | false=>
   rw[t2]at c2
   exact cq (i8 (h_ (aJ (x:=true) (bX c1)) (aJ (x:=false) (bX c2))))
  | true=>
   rw[t2]at c2
   obtain⟨xs,h,hr,_⟩:=vz t1
   obtain⟨ys,k,kr,_⟩:=vz t2
   have c3:=zu (l:=[("row",none)]) (l2:=[("row",none)]) (m:=mv 0) (m2:=mv 1) (env:=[some v,some w]) hv hw h k hr kr rfl (λ _=>rfl) rfl rfl
   rw[h,k]
   dsimp only[Option.map_some]
   by_cases en:xs.map bP=ys.map bP
   ·have c4:=sJ (F:=bL) (l:=[("row",none),("later",none)]) (m:=mv 0) (m2:=mv 1) (env:=[some v,some w]) hv hw h k hr kr (hp xs ys h k en) rfl rfl rfl λ x y a b c d=>(C3 a b c d).1
    rw[decide_eq_true en]at c3
    rw[decide_eq_true (congrArg some en)]
    exact cq (og (h_ (aJ (x:=true) (bX c1)) (aJ (x:=true) (bX c2))) (og c3 (dZ c4)))
   ·rw[decide_eq_false en]at c3
    rw[decide_eq_false (λ z=>en (Option.some.inj z))]
    exact cq (og (h_ (aJ (x:=true) (bX c1)) (aJ (x:=true) (bX c2))) (i8 c3))
theorem nj:∀ l:List Str,qy (l.map AV.str)=some l
 | []=>rfl
 | a :: r=>by simp only[List.map_cons,qy,nj r];rfl
theorem GN {body:Ms}{a b:AV}{y:Option AV}{s:S}:lD (aV (aT (aa (mv 0) (aa (mv 1) ah)))) (gN 2) body [some a,some b,none,y] s=(match body [some a,some b,some a,y] s with
  | .nx e2 s2=>forL (gN 2) body [] [b] e2 s2|.ct e2 s2=>forL (gN 2) body [] [b] e2 s2|.bk e2 s2=>.nx e2 s2|q=>q):=by
 have e:aV (aT (aa (mv 0) (aa (mv 1) ah))) [some a,some b,none,y] s=.ok ([a,b],[]) s:=by
  unfold aV
  rw[cj (vs:=[a,b]) rfl (by simp)];rfl
 unfold lD
 rw[e]
 show forL (gN 2) body [] [a,b] [some a,some b,none,y] s=_
 rw[forL,if_pos (bu s)]
 rfl
theorem JQ {body:Ms}{a b c:AV}{y:Option AV}{s:S}:forL (gN 2) body [] [c] [some a,some b,some a,y] s=(match body [some a,some b,some c,y] s with
  | .nx e2 s2=>.nx e2 s2|.ct e2 s2=>.nx e2 s2|.bk e2 s2=>.nx e2 s2|q=>q):=by
 rw[forL,if_pos (bu s)]
 show(match body [some a,some b,some c,y] s with
  | .nx e2 s2=>forL (gN 2) body [] [] e2 s2|.ct e2 s2=>forL (gN 2) body [] [] e2 s2|.bk e2 s2=>.nx e2 s2|q=>q)=_
 have n:∀ e s,forL (gN 2) body [] [] e s=.nx e s:=λ e s=>by rw[forL,if_pos (bu s)]
 cases body [some a,some b,some c,y] s<;>simp only[n]
theorem ve {F:List AV->S->R AV}{m m2:Ev}{env:En}{s z:S}{v w:AV}{b:Bool}(e:m env s=.ok v s)(e2:m2 env s=.ok w s)(h:F [v,w] s=.ok (.bl b) (s++z)):gu (aj 2 F (aa m (aa m2 ah))) env s=.ok (.bl b) s:=by
 have e1:aj 2 F (aa m (aa m2 ah)) env s=.ok (.bl b) (s++z):=by
  unfold aj aa ah
  rw[e,ao,e2];exact h
 unfold gu
 rw[e1,ao,if_pos ⟨by rw[List.take_left'] ;rfl,rfl⟩]
theorem DJ {i:Int}(h:0<=i)(k:i < 2 ^ 40):bw 9000 i:=(cA (n:=40) h k).mono (by decide)
theorem zo {a b:Int}(ha:0<=a)(hb:0 < b):0<=(Rat.divInt a b).num:=by
 have e:=lX (t:=a) (b:=b) (by omega)
 have e1:a.fdiv (jX a b)=(Rat.divInt a b).num:=congrArg Prod.fst e
 have eg:jX a b=((Int.gcd a b:Nat):Int):=if_neg (by omega)
 rw[<-e1,eg]
 exact Int.fdiv_nonneg ha (by omega)
theorem Au {n:Nat}{b:Ms}{v w:AV}{s:S}{Q:AV->S->Prop}(h:(b (some v :: some w :: List.replicate (n - 2) none) s).wp (λ _ s1=>Q .aY s1) Q):(gh n b [v,w] s).wp Q:=by rw[WS.2.2.2.2.2.2.2.2.2.2.2.2.2.2.2.2.1];exact h
theorem sX {b:Nat}:∀ {l:List AV}{v:AV},bx b l=true->v∈l->v.low b=true
 | a :: r,v,h,hv=>by
  simp only[bx,Bool.and_eq_true]at h
  rcases List.mem_cons.mp hv with rfl|hv
  ·exact h.1
  ·exact sX h.2 hv
theorem Ih {c d n:Nat}{s:S}(D:Dr c d n s)(hn:n<=900001000){xs:List AV}{m:Int}(hm:m=xs.length)(Oe:0 < m)(CD:m<=20)(lx:∀ b,bx b xs=true) :
  (ar [.ref d,.int m] (s++[.lst xs])).wp λ v s2=>∃ u,ai (.ref s.length) v s2=.ok u s2/\u∈xs/\u.low s.length=true/\(s2.take s.length).all (AO.low s.length)=true/\Dr c d (n+1) (s2.take s.length)/\Kp c d s (s2.take s.length):=by
 have D1':=D.app (e:=[.lst xs]) (D.cl.add (by simp[AO.low,lx]))
 refine(bp D1' (by omega) (by omega) (g_ (by omega) (by omega))).mono ?_
 rintro _ s2 ⟨j,rfl,j0,j1,D2,K2⟩
 obtain⟨v,hv,ev⟩:=tm (s:=s2) (i:=s.length) (j:=j) (K2.gk.lst (n:=0) (by have:=D.v8;omega) (by have:=D.v7;omega) (v_ s _)) j0 (by omega)
 obtain⟨D3,K3,al⟩:=((Gk.app c d s _).trans K2.gk).cut D D2
 exact⟨v,ev,hv,sX (lx _) hv,al,D3,K3⟩
theorem GL (q:Rat)(s:S):ai (fq q) (.int 0) s=.ok (.int q.num) s:=rfl
theorem GK (q:Rat)(s:S):ai (fq q) (.int 1) s=.ok (.int q.den) s:=rfl
theorem aH {m:Ev}{r:dR}{env:En}{s:S}{v:AV}{vs:List AV}(h:m env s=.ok v s)(k:r env s=.ok vs s):aa m r env s=.ok (v :: vs) s:=by unfold aa;rw[h,ao,k];rfl
theorem gG {i:Nat}{m:Ev}{env:En}{s s1:S}{v:AV}(h:m env s=.ok v s1)(N:En->S->Prop)(T:AV->S->Prop):(aO i m env s).wp N T=N (env.set i (some v)) s1:=by unfold aO;rw[h];rfl
theorem JT (wh:Rat){co:Int}(h:wh.num.fdiv wh.den<=co):wh < ((co+1:Int):Rat):=by
 have hd:=wh.den_pos
 refine(Rat.lt_iff _ _).mpr ?_
 show wh.num * 1 < (co+1) * (wh.den:Int)
 rw[Int.mul_one]
 rw[Int.fdiv_eq_ediv_of_nonneg _ (by omega)]at h
 have:=Int.lt_ediv_add_one_mul_self wh.num (b:=(wh.den:Int)) (by omega)
 have h2:(wh.num / (wh.den:Int)+1) * (wh.den:Int)<=(co+1) * (wh.den:Int):=Int.mul_le_mul_of_nonneg_right (by omega) (by omega)
 omega
theorem Fl {r:Rat}(h:r < 1):r.num < r.den:=by
 have:=(Rat.lt_iff _ _).mp h
 have e:r.num * 1 < 1 * (r.den:Int):=this
 omega
theorem x_ {a b:Int}{n:Nat}(h:bw n a)(hb:0 < b):bw n (a.fdiv b):=by
 refine h.le ?_
 rw[Int.fdiv_eq_ediv_of_nonneg _ (by omega)]
 exact Int.natAbs_ediv_le_natAbs a b
def iN (t:Str)(n:Nat):Prop:=(∀ c∈t.cps.toList,c < 128)/\t.length<=n
theorem iN.all {t:Str}{n:Nat}(h:iN t n):t.cps.all (· < 128)=true:=by
 rw[Array.all_eq_true']
 intro c hc
 exact decide_eq_true (h.1 c (Array.mem_toList_iff.mpr hc))
theorem iN.app {t u:Str}{n m:Nat}(h:iN t n)(k:iN u m):iN (t++u) (n+m):=by
 have e:(t++u).cps=t.cps++u.cps:=rfl
 refine⟨λ c hc=>?_,?_⟩
 ·rw[e,Array.toList_append]at hc
  exact(List.mem_append.mp hc).elim (h.1 c) (k.1 c)
 ·show(t++u).cps.size<=_
  rw[e,Array.size_append]
  have h1:t.cps.size<=n:=h.2
  have h2:u.cps.size<=m:=k.2
  omega
theorem iN.mono {t:Str}{n m:Nat}(h:iN t n)(k:n<=m):iN t m:=⟨h.1,Nat.le_trans h.2 k⟩
theorem iN.slice {t:Str}{n:Nat}(h:iN t n)(l u:Option Int):iN (Txt.slice t l u) n:=by
 refine⟨λ c hc=>?_,Nat.le_trans (Txt.slice_le t l u) h.2⟩
 unfold Txt.slice at hc
 split at hc
 ·exact h.1 c hc
 ·obtain⟨i,_,e⟩:=List.mem_filterMap.mp (show c∈List.filterMap _ _ from hc)
  exact h.1 c (Array.mem_toList_iff.mpr (Array.mem_of_getElem? e))
theorem iN.small {t:Str}{n:Nat}(h:iN t n)(k:n<=1000):t.length<=sizeLine:=Nat.le_of_lt (a4 (Nat.le_trans h.2 k))
theorem JS {n:Nat}{b:Ms}{v:AV}{s:S}{Q:AV->S->Prop}(h:(b (some v :: List.replicate (n - 1) none) s).wp (λ _ s1=>Q .aY s1) Q):(gh n b [v] s).wp Q:=by rw[WS.2.2.2.2.2.2.2.2.2.2.2.2.2.2.2.1];exact h
theorem Cz {t:Str}{j:Int}{s:S}{n:Nat}(h:iN t n)(hn:n<=1000)(h0:0<=j)(h1:j < t.length):∃ u,ai (.str t) (.int j) s=.ok (.str u) s/\iN u 1/\u.length=1:=by
 obtain⟨i,rfl⟩:∃ i:Nat,j=i:=⟨j.toNat,by omega⟩
 have hi:i < t.cps.toList.length:=by have:t.cps.toList.length=t.length:=Array.length_toList;omega
 refine⟨⟨#[t.cps.toList[i]]⟩,?_,⟨λ c hc=>?_,Nat.le_refl _⟩,rfl⟩
 ·show(if t.length<=sizeLine then need (gS t.cps.toList i) λ c=>R.ok (AV.str ⟨#[c]⟩) s else .bad)=_
  rw[if_pos (h.small hn),e7 (List.getElem?_eq_getElem hi)];rfl
 ·simp at hc
  subst hc
  exact h.1 _ (by simp)
theorem add_str {t u:Str}{s:S}(h:t.length+u.length<=1000):av (.str t) (.str u) s=.ok (.str (t++u)) s:=if_pos (Nat.le_of_lt (a4 h))
theorem xb:iN "abcdefghijklmnopqrstuvwxyz" 26:=⟨by decide +kernel,by decide +kernel⟩
theorem wb (t u:Str):(t++u).length=t.length+u.length:=by
 show(t.cps++u.cps).size=_
 rw[Array.size_append];rfl
theorem xa:("abcdefghijklmnopqrstuvwxyz":Str).length=26:=by decide +kernel
theorem Ao {m:Ev}{env:En}{s z:S}{v:AV}(h:m env s=.ok v (s++z)) (l:v.low s.length=true):gu m env s=.ok v s:=by
 unfold gu
 rw[h,ao,if_pos ⟨by rw[List.take_left'] ;rfl,l⟩]
theorem Ee {c d n m:Nat}{s s':S}{v:AV}{t:String}(D:Dr c d n s)(D':Dr c d m s')(G:Gk c d s s')(h:cf v s=some t):cf v s'=some t:=by
 cases v with
 | ref i=>
  obtain⟨⟨t1,cells,h1,h2,_⟩,_⟩:=D
  obtain⟨⟨RA,Nt,JL,QO,_⟩,_⟩:=D'
  simp only[cf]at h ⊢
  by_cases e1:i=c
  ·subst e1;rw[h2]at h;rw[QO];exact h
  by_cases e2:i=d
  ·subst e2;rw[h1]at h;rw[JL];exact h
  cases e:s[i]? with
  | none=>rw[e]at h;cases h
  | some o=>rw[G.get i (List.getElem?_eq_some_iff.mp e).1 e1 e2,e];rw[e]at h;exact h
 | _=>exact h
theorem wc {c d n m:Nat}{s s':S}{v:AV}(D:Dr c d n s)(D':Dr c d m s')(G:Gk c d s s')(h:dD s v):dD s' v:=by
 obtain⟨⟨t,ht⟩,h⟩:=h
 exact⟨⟨t,Ee D D' G ht⟩,h⟩
theorem zl {c d n m:Nat}{s s':S}(D:Dr c d n s)(D':Dr c d m s')(G:Gk c d s s'):∀ {k:Nat}{v:AV},jS k s v->jS k s' v
 | 0,_,h=>wc D D' G h
 | k+1,v,h=>⟨wc D D' G h.1,λ xs e=>⟨(h.2 xs e).1,λ x hx=>zl D D' G ((h.2 xs e).2 x hx)⟩⟩
structure Th (s:S)(v:AV):Prop where
 ok:jS 1 s v
 dp:t_ v<=3
 lw:v.low s.length=true
theorem Th.gk {c d n m:Nat}{s s':S}{v:AV}(D:Dr c d n s)(D':Dr c d m s')(G:Gk c d s s')(h:Th s v):Th s' v:=⟨zl D D' G h.ok,h.dp,AV.low.mono G.len h.lw⟩
theorem zk {s:S}{v:AV}(h:dD s v)(k:∀ xs,v≠.tup xs):jS 1 s v:=⟨h,λ xs e=>absurd e (k xs)⟩
theorem nu {s:S}{i:Nat}{xs:List AV}(h:aq s i=some xs):Th s (.ref i):=by
 have hi:=ay h
 refine⟨zk ⟨⟨"list",by simp only[cf,hi]⟩,trivial⟩ (by simp),by simp[t_],?_⟩
 simp only[AV.low,decide_eq_true_eq]
 exact(List.getElem?_eq_some_iff.mp hi).1
theorem wV {m:Ev}{r:dR}{env:En}{s s1 s2:S}{v:AV}{vs:List AV}(h:m env s=.ok v s1)(k:r env s1=.ok vs s2):aa m r env s=.ok (v :: vs) s2:=by unfold aa;rw[h,ao,k];rfl
theorem D_ {r:dR}{env:En}{s s1:S}{vs:List AV}(h:r env s=.ok vs s1)(hl:vs.length<=1000):aT r env s=.ok (.tup vs) s1:=by
 unfold aT
 rw[h,ao,if_pos (Nat.le_of_lt (a4 hl))]
theorem push {c d n:Nat}{st:S}{xs:List AV}(D:Dr c d n st)(h:∀ x∈xs,Th st x):Dr c d n (st++[.lst xs])/\Gk c d st (st++[.lst xs])/\∀ x,Th st x->Th (st++[.lst xs]) x:=by
 have lw:∀ l:List AV,(∀ x∈l,Th st x)->bx st.length l=true:=by
  intro l
  induction l with
  | nil=>intro _;simp[bx]
  | cons a r ih=>intro h;simp only[bx,(h a (.head _)).lw,ih λ x hx=>h x (.tail _ hx)];rfl
 have D':=D.app (e:=[.lst xs]) (D.cl.add (by simp only[List.all_cons,List.all_nil,Bool.and_true];exact bx.mono (by simp) (lw xs h)))
 exact⟨D',Gk.app c d st _,λ x hx=>hx.gk D D' (Gk.app c d st _)⟩
theorem w_ {s:S}{i j:Nat}{xs ys:List AV}(h:aq s i=some xs)(k:aq s j=some ys)(hl:xs.length+ys.length<=1000):av (.ref i) (.ref j) s=.ok (.ref s.length) (s++[.lst (xs++ys)]):=by
 show(need (aq s i) λ xs=>need (aq s j) λ ys=>if xs.length+ys.length<=sizeLine then R.ok (AV.ref s.length) (s++[.lst (xs++ys)]) else .bad)=_
 rw[h,aG,k,aG,if_pos (Nat.le_of_lt (a4 hl))]
theorem t9 {n:Nat}:∀ {l:List AV},(∀ x∈l,t_ x<=n)->qk l<=n
 | [],_=>by simp[qk]
 | a :: r,h=>by simp only[qk];exact Nat.max_le.mpr ⟨h a (.head _),t9 λ x hx=>h x (.tail _ hx)⟩
theorem kO {b:Nat}:∀ {l:List AV},(∀ x∈l,x.low b=true)->bx b l=true
 | [],_=>by simp[bx]
 | a :: r,h=>by simp only[bx,h a (.head _),kO λ x hx=>h x (.tail _ hx)];rfl
theorem rP {xs ys:List AV}{s:S}(h:ys≠[])(hl:xs.length+ys.length<=1000):av (.tup xs) (.tup ys) s=.ok (.tup (xs++ys)) s:=if_pos ⟨h,Nat.le_of_lt (a4 hl)⟩
theorem wF {o i:Ev}{v:AV}{env:En}{s s2:S}{f:Nat}{j:Int}{m:Nat}{xs:List AV}{N:En->S->Prop}{T:AV->S->Prop}(e1:o env s=.ok (.ref f) s) (e2:i env s=.ok (.int j) s2) (h:aq s2 f=some xs)(hj:qQ xs.length j=some m)(k:N env (s2.set f (.lst (xs.set m v)))):(dO o i v env s).wp N T:=by
 rw[se,dJ e1,dJ e2]
 simp only[h,hj]
 exact k
theorem CA (q:Rat):gq (fq q)=true:=by
 show(decide ((1:Int)<=q.den) && decide (ig q.num q.den=1))=true
 rw[decide_eq_true (hX q),decide_eq_true ((z_ (hX q)).mpr (kG q))];rfl
theorem xt {p:Str}{e f:Rat}{w d:Int}{r k:Rat}{g a:Int}(hp:isNm (.str p)=true) (hw:0<=w)(hd:0<=d)(hg:0<=g)(ha:0<=a):dj (eI p e f w d r k g a)=true:=by
 show(isNm (.str p) && (gq (fq e) && (gq (fq f) && (gq (fq r) && (gq (fq k) && true)))) && (decide (0<=w) && (decide (0<=d) && (decide (0<=g) && (decide (0<=a) && true)))))=true
 simp only[CA,hp,decide_eq_true hw,decide_eq_true hd,decide_eq_true hg,decide_eq_true ha,Bool.and_true]
theorem uJ {zs:List Str}(h:zs.Nodup):dn (df zs)=true:=by
 have nd:(df zs).Nodup:=(eL zs).nodup_iff.mpr h
 refine jP (((fO zs).and nd).imp λ {a b} h=>?_)
 rw[lO]
 cases q:mC b a with
 | false=>rfl
 | true=>exact absurd (nZ h.1 q) h.2
theorem tu {st:S}{v:AV}{xs:List AV}(h:items v st=some xs)(hr:xs.all dj=true)(hn:dn (xs.map bP)=true):dt st v=true:=by
 unfold dt;rw[h];dsimp only;rw[hr,hn];rfl
def nH:List AV->List AV->List AV
 | x :: xs,y :: ys=>.tup [x,y] :: nH xs ys
 | _,_=>[]
theorem vP:∀ {xs ys:List AV}(x y:AV),xs.length=ys.length->nH (xs++[x]) (ys++[y])=nH xs ys++[.tup [x,y]]
 | [],[],_,_,_=>rfl
 | [],_ :: _,_,_,h=>by simp at h
 | _ :: _,[],_,_,h=>by simp at h
 | a :: r,b :: q,x,y,h=>by
  show AV.tup [a,b] :: nH (r++[x]) (q++[y])=_
  rw[vP x y (by simpa using h)];rfl
def pF:AV->AV
 | .tup [x,_]=>x
 | w=>w
def pS:AV->AV
 | .tup [_,x]=>x
 | w=>w
theorem qG:∀ {xs ys:List AV},xs.length=ys.length->(nH xs ys).map pF=xs
 | [],[],_=>rfl
 | [],_ :: _,h=>by simp at h
 | _ :: _,[],h=>by simp at h
 | a :: r,b :: q,h=>by
  show a :: List.map _ (nH r q)=_
  rw[qG (by simpa using h)]
theorem vO:∀ {xs ys:List AV},xs.length=ys.length->(nH xs ys).map pS=ys
 | [],[],_=>rfl
 | [],_ :: _,h=>by simp at h
 | _ :: _,[],h=>by simp at h
 | a :: r,b :: q,h=>by
  show b :: List.map _ (nH r q)=_
  rw[vO (by simpa using h)]
theorem mU:∀ {xs ys:List AV}{v:AV},v∈nH xs ys->∃ x∈xs,∃ y∈ys,v=.tup [x,y]
 | [],_,_,h=>nomatch h
 | _ :: _,[],_,h=>nomatch h
 | a :: r,b :: q,v,h=>by
  rcases List.mem_cons.mp (show v∈AV.tup [a,b] :: nH r q from h) with rfl|h
  ·exact⟨a,.head _,b,.head _,rfl⟩
  ·obtain⟨x,hx,y,hy,e⟩:=mU h
   exact⟨x,.tail _ hx,y,.tail _ hy,e⟩
theorem yK {zs:List Str}{z:Str}(h:z∈df zs):z∈zs:=(eL zs).mem_iff.mp h
theorem De {b:Nat}:∀ (ts:List Str) (k:Nat) (acc:Str),(∀ t∈ts,t.length<=b)->(textFrom k acc ts).length<=acc.length+ts.length * (b+2)
 | [],k,acc,_=>by show acc.length<=_;omega
 | t :: r,k,acc,h=>by
  have ih:=De r (k+1) (acc++(if k > 0 then ", " else "":String)++t) λ x hx=>h x (.tail _ hx)
  have ht:=h t (.head _)
  have e:(acc++(if k > 0 then ", " else "":String)++t).length=acc.length+(if k > 0 then 2 else 0)+t.length:=by
   rw[strLen_append,strLen_append]
   split<;>rfl
  show(textFrom (k+1) _ r).length<=_
  rw[e]at ih
  have:(if k > 0 then 2 else 0)<=2:=by split<;>omega
  rw[List.length_cons,Nat.succ_mul]
  omega
theorem wa {b:Nat}{ts:List Str}(h:∀ t∈ts,t.length<=b):(listText ts).length<=ts.length * (b+2)+2:=by
 have:=De ts 0 "[" h
 unfold listText
 rw[strLen_append]
 have e1:("[":Str).length=1:=by decide +kernel
 have e2:("]":Str).length=1:=by decide +kernel
 rw[e1]at this;rw[e2];omega
theorem join_le {b:Nat}:∀ (ts:List Str),(∀ t∈ts,t.length<=b)->(Str.join ", " ts).length<=ts.length * (b+2)
 | [],_=>Nat.le_trans (Nat.le_of_eq (show(Str.join ", " []).length=0 by decide +kernel)) (Nat.zero_le _)
 | [x],h=>by show x.length<=_;have:=h x (.head _);simp;omega
 | x :: y :: r,h=>by
  have ih:=join_le (y :: r) λ t ht=>h t (.tail _ ht)
  have hx:=h x (.head _)
  show(x++", "++Str.join ", " (y :: r)).length<=_
  rw[strLen_append,strLen_append]
  have e2:((", ":String):Str).length=2:=rfl
  rw[e2,List.length_cons,Nat.succ_mul];omega
theorem Ea {b:Nat}{ts:List Str}(h:∀ t∈ts,t.length<=b):(tupleText ts).length<=ts.length * (b+2)+3:=by
 have:=join_le ts h
 unfold tupleText
 rw[strLen_append,strLen_append]
 have e1:("(":Str).length=1:=by decide +kernel
 have e2:∀ c:Bool,((if c then ",)" else ")":String):Str).length<=2:=by intro c;cases c<;>decide +kernel
 have:=e2 (ts.length == 1)
 rw[e1];omega
def Hw:AV->Prop
 | .aY=>True
 | .bl _=>True
 | .int i=>bw 900 i
 | .str t=>iN t 40
 | _=>False
def fd:Nat->AV->Prop
 | 0,v=>Hw v
 | n+1,v=>Hw v∨∃ xs,v=.tup xs/\xs.length<=24/\∀ x∈xs,fd n x
def Bd:Nat->Nat
 | 0=>950
 | n+1=>24 * (Bd n+2)+3
theorem Kd (n:Nat):Bd n<=Bd (n+1):=by show _<=24 * (Bd n+2)+3;omega
theorem k9 {v:AV}(h:Hw v)(s:S):dD s v/\∀ xs,v≠.tup xs:=by
 cases v with
 | aY=>exact⟨⟨⟨_,rfl⟩,trivial⟩,by simp⟩
 | bl b=>exact⟨⟨⟨_,rfl⟩,trivial⟩,by simp⟩
 | int i=>exact⟨⟨⟨_,rfl⟩,h⟩,by simp⟩
 | str t=>exact⟨⟨⟨_,rfl⟩,iN.all h,iN.small h (by decide)⟩,by simp⟩
 | _=>exact h.elim
theorem mq {s:S}{v:AV}(h:dD s v)(k:∀ xs,v≠.tup xs):∀ m,jS m s v
 | 0=>h
 | _+1=>⟨h,λ xs e=>absurd e (k xs)⟩
theorem Ax:∀ {n:Nat}{v:AV},fd n v->∀ (m:Nat)(s:S),jS m s v
 | 0,v,h,m,s=>mq (k9 h s).1 (k9 h s).2 m
 | n+1,v,.inl h,m,s=>mq (k9 h s).1 (k9 h s).2 m
 | n+1,v,.inr ⟨xs,e,l,h⟩,m,s=>by
  subst e
  cases m with
  | zero=>exact⟨⟨_,rfl⟩,trivial⟩
  | succ m=>exact⟨⟨⟨_,rfl⟩,trivial⟩,λ ys e=>by cases e;exact⟨Bj (by omega),λ x hx=>Ax (h x hx) m s⟩⟩
theorem m8 {v:AV}(h:Hw v)(b:Nat):v.low b=true/\t_ v=0:=by
 cases v with
 | tup xs=>exact h.elim
 | ref i=>exact h.elim
 | sq xs=>exact h.elim
 | _=>exact⟨by simp[AV.low],by simp[t_]⟩
theorem lY:∀ {n:Nat}{v:AV},fd n v->∀ b,v.low b=true/\t_ v<=n
 | 0,v,h,b=>⟨(m8 h b).1,Nat.le_of_eq (m8 h b).2⟩
 | n+1,v,.inl h,b=>⟨(m8 h b).1,by rw[(m8 h b).2];omega⟩
 | n+1,v,.inr ⟨xs,e,l,h⟩,b=>by
  subst e
  exact⟨by simp only[AV.low];exact kO λ x hx=>(lY (h x hx) b).1,by
   have:=t9 (n:=n) λ x hx=>(lY (h x hx) b).2
   simp only[t_];omega⟩
structure yt (n B:Nat)(d:PyData):Prop where
 sh:d.showable=true
 nd:d.hasDict=false
 dp:d.depth<=n
 ln:d.shown.length<=B
theorem toStr_len (i:Int)(h:bw 900 i):(Str.ofString (toString i)).length<=950:=by
 have h1:i.natAbs.log2 < 900:=by
  by_cases h0:i.natAbs=0
  ·rw[h0];decide
  ·exact(Nat.log2_lt h0).mpr h
 have h2:=int_text_length_le (a:=i) (k:=900) (by decide) h1
 rw[ofString_length]
 omega
theorem wK {v:AV}(h:Hw v)(n m:Nat)(s:S):∃ d,toP m s v=some d/\yt n (Bd n) d:=by
 have hB:950<=Bd n:=by
  induction n with
  | zero=>exact Nat.le_refl _
  | succ n ih=>exact Nat.le_trans ih (Kd n)
 cases v with
 | aY=>exact⟨.none,by unfold toP;rfl,by simp[PyData.showable],by simp[PyData.hasDict],by simp[PyData.depth],Nat.le_trans (by show(PyData.shown .none).length<=950;simp only[PyData.shown];decide +kernel) hB⟩
 | bl b=>exact⟨.bool b,by unfold toP;rfl,by simp[PyData.showable],by simp[PyData.hasDict],by simp[PyData.depth],Nat.le_trans (by simp only[PyData.shown];cases b<;>decide +kernel) hB⟩
 | int i=>
  have h:bw 900 i:=h
  refine⟨.int i,by unfold toP;rfl,?_,by simp[PyData.hasDict],by simp[PyData.depth],Nat.le_trans ?_ hB⟩
  ·simp only[PyData.showable,decide_eq_true_eq]
   by_cases h0:i.natAbs=0
   ·rw[h0];decide
   ·exact Nat.lt_of_lt_of_le ((Nat.log2_lt h0).mpr h) (by decide)
  ·simp only[PyData.shown];exact toStr_len i h
 | str t=>
  have h:iN t 40:=h
  refine⟨.str t,by unfold toP;rfl,by simp[PyData.showable],by simp[PyData.hasDict],by simp[PyData.depth],Nat.le_trans ?_ hB⟩
  simp only[PyData.shown]
  have:=PySem.StrLaws.reprText_len t λ c hc=>Nat.lt_trans (h.1 c hc) (by decide)
  have:=h.2
  omega
 | _=>exact h.elim
theorem fP:∀ {l:List PyData}{t:Str},t∈PyData.shownAll l->∃ d∈l,t=d.shown
 | [],t,h=>by simp[PyData.shownAll]at h
 | d :: r,t,h=>by
  simp only[PyData.shownAll,List.mem_cons]at h
  rcases h with rfl|h
  ·exact⟨d,.head _,rfl⟩
  ·obtain⟨e,he,k⟩:=fP h;exact⟨e,.tail _ he,k⟩
theorem fQ:∀ l:List PyData,(PyData.shownAll l).length=l.length
 | []=>by simp[PyData.shownAll]
 | d :: r=>by simp[PyData.shownAll,fQ r]
theorem mV {n B:Nat}:∀ {l:List PyData},(∀ d∈l,yt n B d)->PyData.showableAll l=true/\PyData.hasDictAll l=false/\PyData.depthAll l<=n
 | [],_=>by simp[PyData.showableAll,PyData.hasDictAll,PyData.depthAll]
 | d :: r,h=>by
  obtain⟨a,b,c⟩:=mV (l:=r) λ e he=>h e (.tail _ he)
  have hd:=h d (.head _)
  simp only[PyData.showableAll,PyData.hasDictAll,PyData.depthAll,a,b,hd.sh,hd.nd]
  exact⟨rfl,rfl,Nat.max_le.mpr ⟨hd.dp,c⟩⟩
theorem vQ {n B w:Nat}{l:List PyData}(hl:l.length<=w)(h:∀ d∈l,yt n B d):yt (n+1) (w * (B+2)+3) (.tuple l):=by
 obtain⟨a,b,c⟩:=mV h
 refine⟨by simpa[PyData.showable]using a,by simpa[PyData.hasDict]using b,by simp only[PyData.depth];omega,?_⟩
 simp only[PyData.shown]
 have:=Ea (b:=B) (ts:=PyData.shownAll l) λ t ht=>by obtain⟨d,hd,rfl⟩:=fP ht;exact(h d hd).ln
 rw[fQ]at this
 have:l.length * (B+2)<=w * (B+2):=Nat.mul_le_mul_right _ hl
 omega
theorem vR {n B w:Nat}{l:List PyData}(hl:l.length<=w)(h:∀ d∈l,yt n B d):yt (n+1) (w * (B+2)+3) (.list l):=by
 obtain⟨a,b,c⟩:=mV h
 refine⟨by simpa[PyData.showable]using a,by simpa[PyData.hasDict]using b,by simp only[PyData.depth];omega,?_⟩
 simp only[PyData.shown]
 have:=wa (b:=B) (ts:=PyData.shownAll l) λ t ht=>by obtain⟨d,hd,rfl⟩:=fP ht;exact(h d hd).ln
 rw[fQ]at this
 have:l.length * (B+2)<=w * (B+2):=Nat.mul_le_mul_right _ hl
 omega
theorem mY {P:PyData->Prop}{f:AV->Option PyData}:∀ {xs:List AV},(∀ x∈xs,∃ d,f x=some d/\P d)->∃ l,xs.mapM f=some l/\l.length=xs.length/\∀ d∈l,P d
 | [],_=>⟨[],by rw[List.mapM_nil];rfl,rfl,(λ _ h=>nomatch h)⟩
 | x :: r,h=>by
  obtain⟨d,e,hd⟩:=h x (.head _)
  obtain⟨l,e2,h2,h3⟩:=mY (xs:=r) λ y hy=>h y (.tail _ hy)
  refine⟨d :: l,by rw[List.mapM_cons,e,e2];rfl,by simp[h2],λ z hz=>?_⟩
  rcases List.mem_cons.mp hz with rfl|hz
  ·exact hd
  ·exact h3 z hz
theorem vh:∀ {n:Nat}{v:AV},fd n v->∀ (m:Nat)(s:S),n<=m->∃ d,toP m s v=some d/\yt n (Bd n) d
 | 0,v,h,m,s,_=>wK h 0 m s
 | n+1,v,.inl h,m,s,_=>wK h (n+1) m s
 | n+1,v,.inr ⟨xs,e,l,h⟩,m,s,hm=>by
  subst e
  cases m with
  | zero=>omega
  | succ m=>
   obtain⟨q,e1,e2,e3⟩:=mY (P:=yt n (Bd n)) (f:=toP m s) λ x hx=>vh (h x hx) m s (by omega)
   exact⟨.tuple q,by unfold toP;rw[e1];rfl,vQ (w:=24) (by omega) e3⟩
theorem sk (A B C D:Option AV):∀ (n:Nat) (x y:Int) (s:S),0<=x->0<=y->y.natAbs < n->
  uo (cB (af jQ (mv 5) (mc (.int 0)))) (fC 4 5 (aa (mv 5) (aa (af cR (mv 4) (mv 5)) ah))) n [A,B,C,D,some (.int x),some (.int y)] s=.nx [A,B,C,D,some (.int (ig x y)),some (.int 0)] s
 | 0,_,_,_,_,_,h=>absurd h (Nat.not_lt_zero _)
 | n+1,x,y,s,hx,hy,h=>by
  unfold uo
  have e:cB (af jQ (mv 5) (mc (.int 0))) [A,B,C,D,some (.int x),some (.int y)] s=.ok (decide (0 < y)) s:=rfl
  rw[e,jg]
  by_cases h0:y=0
  ·subst h0
   rw[if_neg (by simp)]
   rw[show ig x 0=x by show((Int.gcd x 0:Nat):Int)=x;rw[Int.gcd_zero_right];omega]
  ·have A0:0 < y:=by omega
   obtain⟨m1,m2⟩:=rn hx A0
   rw[if_pos (by simpa using A0)]
   have e2:fC 4 5 (aa (mv 5) (aa (af cR (mv 4) (mv 5)) ah)) [A,B,C,D,some (.int x),some (.int y)] s=.nx [A,B,C,D,some (.int y),some (.int (x.fmod y))] s:=by
    have e3:cR (.int x) (.int y) s=.ok (.int (x.fmod y)) s:=if_pos h0
    show((cR (.int x) (.int y) s).bind _ |>.bind _).dw _=_
    rw[e3];rfl
   rw[e2]
   show uo _ _ n _ s=_
   rw[sk A B C D n y (x.fmod y) s hy m1 (by omega),qW A0]
theorem Aq (A B C D X:Option AV)(y:Int):DE [A,B,C,D,X,some (.int y)]=y.natAbs+1:=rfl
theorem kA {a b c d:Int}{n:Nat}(s:S)(hb:0 < b)(hd:0 < d)(hn:n<=4000)(fa:bw n a)(fb:bw n b)(fc:bw n c)(fd:bw n d) :
  ak [.tup [.int a,.int b],.tup [.int c,.int d]] s=.ok (fq (Rat.divInt (a * d+c * b) (b * d))) s:=by
 have ML:b * d≠0:=Int.mul_ne_zero (by omega) (by omega)
 have QG:0 < b * d:=Int.mul_pos hb hd
 have e:=lX (t:=a * d+c * b) (b:=b * d) ML
 have eg:jX (a * d+c * b) (b * d)=ig (a * d+c * b) (b * d):=if_neg (by omega)
 have e1:(a * d+c * b).fdiv (jX (a * d+c * b) (b * d))=(Rat.divInt (a * d+c * b) (b * d)).num:=congrArg Prod.fst e
 have e2:(b * d).fdiv (jX (a * d+c * b) (b * d))=((Rat.divInt (a * d+c * b) (b * d)).den:Int):=congrArg Prod.snd e
 rw[eg]at e1 e2
 have g:=wA (a:=a * d+c * b) ML
 have QY:bw (n+n) (b * d):=fb.mul fd
 have fg:C_ (ig (a * d+c * b) (b * d)):=ij (k7 ML (QY.mono (show n+n<=8000 by omega))) (by decide)
 have bg:∀ {i:Int},bw n i->rZ i:=λ h=>a5 (h.mono hn) (by decide)
 apply R.wp.eq
 unfold ak iF
 simp only[↓WS,↓WE,↓WV,Lq,bR,UU,Nat.reduceSub,↓reduceIte,↓uw,Aq]
 refine⟨⟨bg fa,bg fd⟩,⟨bg fc,bg fb⟩,⟨bg fb,bg fd⟩,?_⟩
 have ea:∀ x:Int,(if x < 0 then -x else x)=((x.natAbs:Nat):Int):=λ x=>by split<;>omega
 rw[ea,yv (sk _ _ _ _ _ _ _ s (by omega) (by omega) (Nat.lt_succ_self _))]
 have ei:ig (((a * d+c * b).natAbs:Nat):Int) (b * d)=ig (a * d+c * b) (b * d):=by
  show((Int.gcd _ _:Nat):Int)=((Int.gcd _ _:Nat):Int)
  simp[Int.gcd]
 rw[ei]
 walk_at "w"
 refine⟨⟨g,fg⟩,⟨g,fg⟩,?_⟩
 rw[e1,e2]
 rfl
theorem dY {p q:Rat}{n:Nat}(s:S)(hn:n<=4000)(hp:Sz n p)(hq:Sz n q):ak [fq p,fq q] s=.ok (fq (p+q)) s:=by
 rw[nc]
 exact kA s (by have:=hX p;omega) (by have:=hX q;omega) hn hp.a hp.b hq.a hq.b
theorem xZ {v:AV}{s:S}(h:jS 1 s v):bj [v] s=.ok (.bl (gq v)) s:=by
 have ht:=h.leaf.1
 cases hs:cw "tuple" v s with
 | false=>
  rw[qU (by rw[<-lS (s:=s),hs];rfl)]
  exact cq (i8 (qI (aJ (x:=false) (bX (gB ht rfl hs)))))
 | true=>
  obtain⟨xs,rfl⟩:=uy hs
  have kl:cB (af cY (gp dq (aa (mv 0) ah)) (mc (.int 2))) [some (.tup xs)] s=.ok (!(isTup 2 (.tup xs))) s:=jh (ax (lJ rfl FR) rfl rfl)
  cases h2:isTup 2 (.tup xs) with
  | false=>
   rw[qU h2]
   rw[h2]at kl
   exact cq (i8 (h_ (aJ (x:=true) (bX (gB ht rfl hs))) kl))
  | true=>
   rw[h2]at kl
   obtain⟨a,b,rfl⟩:=two_of h2
   obtain⟨_,h2⟩:=h.2 _ rfl
   have h1:=(h2 a (by simp)).leaf
   have h3:=(h2 b (by simp)).leaf
   have k:dm dC (aK [("_law_one",none)] (aV (mv 0)) (gN 0) bE (eJ (cK (bU "int") (mv 0)) (cK jD (cK (bU "bool") (mv 0))))) [some (.tup [a,b])] s=.ok (.bl (isNum a && (isNum b && true))) s:=by
    refine all_map (xs:=[a,b]) (gs:=[]) (rest:=[]) isNum rfl (by show(2:Nat)<=sizeLine;rw[sizeLine_eq];decide) (bu s) rfl λ v hv=>?_
    simp only[List.mem_cons,List.not_mem_nil,or_false]at hv
    rcases hv with rfl|rfl
    ·exact n9 h1.1
    ·exact n9 h3.1
   have k0:=h_ (aJ (x:=true) (bX (gB (m:=mv 0) (env:=[some (.tup [a,b])]) ht rfl hs))) kl
   cases ha:isNum a && isNum b with
   | false=>
    rw[tD (by cases h:isNum a<;>simp_all)]
    refine cq (og k0 (i8 (aJ (x:=false) (bX ?_))))
    rw[show(isNum a && (isNum b && true))=false by simpa using ha]at k
    exact k
   | true=>
    obtain⟨ha,hb⟩:=Bool.and_eq_true_iff.mp ha
    obtain⟨i,rfl⟩:=g8 ha
    obtain⟨j,rfl⟩:=g8 hb
    refine cq (og k0 (og (aJ (x:=true) (bX k)) (dZ ?_)))
    have e1:af ai (mv 0) (mc (.int 1)) [some (.tup [.int i,.int j])] s=.ok (.int j) s:=rfl
    have e:gq (.tup [.int i,.int j])=(decide (0 < j) && (decide ((Rat.divInt i j).num=i) && decide (((Rat.divInt i j).den:Int)=j))):=by
     show(decide (1<=j) && decide (ig i j=1))=_
     by_cases hj:1<=j
     ·rw[sW hj];simp[hj];intro;omega
     ·simp[hj];intro;omega
    rw[e]
    refine eU (ax e1 rfl rfl) λ hj=>?_
    have hj:=of_decide_eq_true hj
    have f1:bw 900 (1:Int):=(cA (n:=2) (by decide) (by decide)).mono (by decide)
    have f0:bw 900 (0:Int):=(cA (n:=2) (by decide) (by decide)).mono (by decide)
    have es:=kA (n:=900) s hj (show(0:Int) < 1 by decide) (by decide) h1.2 h3.2 f0 f1
    rw[Int.mul_one,Int.zero_mul,Int.add_zero,Int.mul_one]at es
    refine ax (call2 (m:=mv 0) rfl (cj (vs:=[.int 0,.int 1]) rfl (by simp)) es) rfl (GQ s _ _ _ _)
theorem Jg {c:Nat}(h:c < 128)(s:S):af pM (mv 0) (mc (.str "abcdefghijklmnopqrstuvwxyz")) [some (sgn c)] s=.ok (.bl (vG c)) s:=by
 show R.ok (AV.bl (Txt.contains "abcdefghijklmnopqrstuvwxyz" ⟨#[c]⟩)) s=_
 rw[Hb c h]
theorem nz {v:AV}{s:S}(h:jS 2 s v):aX [v] s=.ok (.bl (dj v)) s:=by
 have ht:=h.leaf.1
 cases hs:cw "tuple" v s with
 | false=>
  rw[qT (by rw[<-lS (s:=s),hs];rfl)]
  exact cq (i8 (qI (aJ (x:=false) (bX (gB ht rfl hs)))))
 | true=>
  obtain⟨xs,rfl⟩:=uy hs
  have kl:cB (af cY (gp dq (aa (mv 0) ah)) (mc (.int 9))) [some (.tup xs)] s=.ok (!(isTup 9 (.tup xs))) s:=jh (ax (lJ rfl FR) rfl rfl)
  cases h9:isTup 9 (.tup xs) with
  | false=>
   rw[qT h9]
   rw[h9]at kl
   exact cq (i8 (h_ (aJ (x:=true) (bX (gB ht rfl hs))) (qI kl)))
  | true=>
   rw[h9]at kl
   obtain⟨p,e,f,w,d,r,k,g,a,rfl⟩:=v5 h9
   obtain⟨_,h2⟩:=h.2 _ rfl
   have hp:=(h2 p (by simp)).leaf
   let E:En:=[some (.tup [p,e,f,w,d,r,k,g,a])]
   have e0:af ai (mv 0) (mc (.int 0)) E s=.ok p s:=rfl
   rw[pK]
   cases A1:cw "str" p s with
   | false=>
    rw[wy A1]
    exact cq (i8 (h_ (aJ (x:=true) (bX (gB ht rfl hs))) (h_ kl (aJ (x:=false) (bX (gB hp.1 e0 A1))))))
   | true=>
    obtain⟨t,rfl⟩:=ty_str A1
    have hc:∀ c∈t.cps.toList,c < 128:=λ c hc=>of_decide_eq_true (Array.all_eq_true'.mp hp.2.1 c (Array.mem_toList_iff.mp hc))
    have PN:b9 ee ee (mc (.int 0)) (gp dq (aa (af ai (mv 0) (mc (.int 0))) ah)) (mc (.int 9)) E s=.ok (.bl (decide (1<=t.length) && decide (t.length<=8))) s:=by
     rw[oJ (x:=decide ((0:Int) < t.length)) (y:=decide ((t.length:Int) < 9)) rfl (lJ e0 (zM hp.2.2)) rfl rfl rfl]
     congr 3<;>(apply decide_eq_decide.mpr;omega)
    have Je:dm dC (aK [("_law_sign",none)] (sx (af ai (mv 0) (mc (.int 0)))) (gN 0) bE (af pM (mv 0) (mc (.str "abcdefghijklmnopqrstuvwxyz")))) E s=.ok (.bl (t.cps.toList.all vG)) s:=by
     rw[all_map (rest:=[]) Ki (vE e0 hp.2.1) (by rw[List.length_map];exact hp.2.2) (bu s) rfl λ v hv=>?_]
     ·rw[List.all_map]
      congr 2
      congr 1
      funext c
      exact mS c
     ·obtain⟨c,h1,rfl⟩:=List.mem_map.mp hv
      rw[Jg (hc c h1),mS]
    have kf:dm dC (aK [("_law_k",none),("_law_thing",some 0)] (aV (aT (aa (mc (.int 1)) (aa (mc (.int 2)) (aa (mc (.int 5)) (aa (mc (.int 6)) ah)))))) (gN 0) bE (aj 1 bj (aa (af ai (mv 1) (mv 0)) ah))) E s=.ok (.bl ([e,f,r,k].all gq)) s:=by
     refine J9 gq rfl Dy.2.1 Dy.2.2.1 Dy.2.2.2.2.2.1 Dy.2.2.2.2.2.2.1 λ i x ex hx=>oM (ax rfl rfl ex) (xZ (h2 x ?_))
     simp only[List.mem_cons,List.not_mem_nil,or_false]at hx ⊢
     rcases hx with rfl|rfl|rfl|rfl<;>simp
    have ku:dm dC (aK [("_law_k",none),("_law_thing",some 0)] (aV (aT (aa (mc (.int 3)) (aa (mc (.int 4)) (aa (mc (.int 7)) (aa (mc (.int 8)) ah)))))) (gN 0) bE (eJ (cK (bU "int") (af ai (mv 1) (mv 0))) (eJ (cK jD (cK (bU "bool") (af ai (mv 1) (mv 0)))) (af jR (af ai (mv 1) (mv 0)) (mc (.int 0)))))) E s=.ok (.bl ([w,d,g,a].all pq)) s:=by
     refine J9 pq rfl Dy.2.2.2.1 Dy.2.2.2.2.1 Dy.2.2.2.2.2.2.2.1 Dy.2.2.2.2.2.2.2.2 λ i x ex hx=>?_
     have hx:jS 1 s x:=h2 x (by simp only[List.mem_cons,List.not_mem_nil,or_false]at hx ⊢;rcases hx with rfl|rfl|rfl|rfl<;>simp)
     have ei:af ai (mv 1) (mv 0) [some (.int i),some (.tup [.str t,e,f,w,d,r,k,g,a])] s=.ok x s:=ax rfl rfl ex
     obtain⟨tg,Oc⟩:=hx.leaf.1
     have b1:=qS (n:="int") hx.leaf.1 ei
     have b2:=qS (n:="bool") hx.leaf.1 ei
     cases x with
     | int n=>exact eU (x:=true) (y:=decide (0<=n)) b1 λ _=>eU (x:=true) (y:=decide (0<=n)) (vy b2 rfl) λ _=>ax ei rfl rfl
     | bl b=>exact eU (x:=true) (y:=false) b1 λ _=>eU (x:=false) (y:=false) (vy b2 rfl) λ h=>by cases h
     | ref n=>exact eU (x:=false) (y:=false) (by rw[b1];unfold cw;rw[Oc];rcases mR Oc with rfl|rfl<;>rfl) λ h=>by cases h
     | _=>exact eU (x:=false) (y:=false) b1 λ h=>by cases h
    have c1:iM (cF (cT (cK (bU "tuple") (mv 0)))) (iM (cB (af cY (gp dq (aa (mv 0) ah)) (mc (.int 9)))) (cF (cT (cK (bU "str") (af ai (mv 0) (mc (.int 0))))))) E s=.ok false s:=h_ (aJ (x:=true) (bX (gB ht rfl hs))) (h_ kl (aJ (x:=true) (bX (gB hp.1 e0 A1))))
    have all:=i_ (iT (aJ (jh PN)) λ _=>aJ (bX Je)) λ _=>i_ (aJ (bX kf)) λ _=>dZ ku
    refine cq ((og c1 all).trans ?_)
    unfold isNm
    dsimp only
    cases (decide (1<=t.length) && decide (t.length<=8))<;>cases t.cps.toList.all vG<;>cases [e,f,r,k].all gq<;>rfl
theorem pU {p q:Rat}(s:S)(h:Sz 901 p)(k:Sz 901 q):cH [fq p,fq q] s=.ok (.bl (decide (p.num * q.den < q.num * p.den))) s:=gb s h k
theorem xX {p0 p:Str}{e0 f0:Rat}{w0 d0:Int}{r0 k0:Rat}{g0 a0:Int}{e f:Rat}{w d:Int}{r k:Rat}{g a:Int}(s:S)(h0:oU e0 f0 w0 d0 r0 k0)(h:oU e f w d r k) :
  bB [eI p0 e0 f0 w0 d0 r0 k0 g0 a0,eI p e f w d r k g a] s=.ok (.bl (oz r0 k0 e f w d r k g a)) s:=by
 let E:En:=[some (eI p0 e0 f0 w0 d0 r0 k0 g0 a0),some (eI p e f w d r k g a),none,none]
 have u:∀ {q:Rat},Sz 900 q->Sz 901 q:=λ h=>h.mono (by decide)
 have n1:aj 2 ak (aa (af ai (mv 1) (mc (.int 5))) (aa (af ai (mv 1) (mc (.int 6))) ah)) E s=.ok (fq (r+k)) s:=call2 rfl rfl (dY s (n:=900) (by decide) h.r h.k)
 let E2:En:=[some (eI p0 e0 f0 w0 d0 r0 k0 g0 a0),some (eI p e f w d r k g a),some (fq (r+k)),none]
 have c1:aj 2 ak (aa (af ai (mv 0) (mc (.int 5))) (aa (af ai (mv 0) (mc (.int 6))) ah)) E2 s=.ok (fq (r0+k0)) s:=call2 rfl rfl (dY s (n:=900) (by decide) h0.r h0.k)
 have z1:Sz 1801 (r0+k0):=(h0.r.add h0.k).mono (by decide)
 have c2:aj 2 ak (aa (aj 2 ak (aa (af ai (mv 0) (mc (.int 5))) (aa (af ai (mv 0) (mc (.int 6))) ah))) (aa (af ai (mv 1) (mc (.int 1))) ah)) E2 s=.ok (fq (r0+k0+e)) s:=call2 c1 rfl (dY s (n:=1801) (by decide) z1 (h.e.mono (by decide)))
 have z2:Sz 3603 (r0+k0+e):=(z1.add (h.e.mono (show 900<=1801 by decide))).mono (by decide)
 have zi:Sz 3603 (((-w - d:Int)):Rat):=jM (n:=3603) (by
  rw[show -w - d=-w+-d by omega]
  exact(h.w.neg.add h.d.neg).mono (by decide)) (by decide)
 have tp:aT (aa (af fh (cK cn (af ai (mv 1) (mc (.int 3)))) (af ai (mv 1) (mc (.int 4)))) (aa (mc (.int 1)) ah)) E2 s=.ok (fq ((-w - d:Int):Rat)) s:=cj (vs:=[.int (-w - d),.int 1]) rfl (by simp)
 have c3:aj 2 ak (aa (aj 2 ak (aa (aj 2 ak (aa (af ai (mv 0) (mc (.int 5))) (aa (af ai (mv 0) (mc (.int 6))) ah))) (aa (af ai (mv 1) (mc (.int 1))) ah))) (aa (aT (aa (af fh (cK cn (af ai (mv 1) (mc (.int 3)))) (af ai (mv 1) (mc (.int 4)))) (aa (mc (.int 1)) ah))) ah)) E2 s=.ok (fq (r0+k0+e+((-w - d:Int):Rat))) s:=call2 c2 tp (dY s (n:=3603) (by decide) z2 zi)
 let E3:En:=[some (eI p0 e0 f0 w0 d0 r0 k0 g0 a0),some (eI p e f w d r k g a),some (fq (r+k)),some (fq (r0+k0+e+((-w - d:Int):Rat)))]
 have ff:af ai (af ai (mv 1) (mc (.int 2))) (mc (.int 0)) E3 s=.ok (.int f.num) s:=rfl
 have kk:af ai (af ai (mv 1) (mc (.int 6))) (mc (.int 0)) E3 s=.ok (.int k.num) s:=rfl
 have i1:=iT (jh (ax (m:=mv 2) (m2:=mv 3) (env:=E3) rfl rfl (uS s (r+k) (r0+k0+e+((-w - d:Int):Rat))))) λ _=>iT (jh (ax (op:=ee) (m2:=mc (.int 0)) ff rfl rfl)) λ _=>jh (ax (op:=ee) (m2:=mc (.int 0)) kk rfl rfl)
 have l1:aj 2 cH (aa (af ai (mv 0) (mc (.int 6))) (aa (af ai (mv 1) (mc (.int 2))) ah)) E3 s=.ok (.bl (decide (k0.num * f.den < f.num * k0.den))) s:=call2 rfl rfl (pU s (u h0.k) (u h.f))
 have l2:aj 2 cH (aa (af ai (mv 1) (mc (.int 5))) (aa (aT (aa (mc (.int 1)) (aa (mc (.int 1)) ah))) ah)) E3 s=.ok (.bl (decide (r.num < r.den))) s:=by
  rw[<-Dw]
  exact call2 rfl (cj (vs:=[.int 1,.int 1]) rfl (by simp)) (pU s (u h.r) (q:=1) (jM (i:=1) (n:=901) ((cA (n:=2) (by decide) (by decide)).mono (by decide)) (by decide)))
 have i2:=iT (bX l1) λ _=>aJ (bX l2)
 have i3:zI (af bI (af ai (mv 1) (mc (.int 4))) (mc (.int 0))) (eJ (af bI (af ai (mv 1) (mc (.int 7))) (mc (.int 0))) (af bI (af ai (mv 1) (mc (.int 8))) (mc (.int 0)))) E3 s=.ok (.bl (decide (d=0) || (decide (g=0) && decide (a=0)))) s:=
  uO rfl λ _=>eU rfl λ _=>rfl
 have all:=i_ i1 λ _=>i_ i2 λ _=>dZ i3
 refine cq ?_
 have t2:aO 2 (aj 2 ak (aa (af ai (mv 1) (mc (.int 5))) (aa (af ai (mv 1) (mc (.int 6))) ah))) E s=.nx E2 s:=by unfold aO;rw[n1];rfl
 have t3:aO 3 (aj 2 ak (aa (aj 2 ak (aa (aj 2 ak (aa (af ai (mv 0) (mc (.int 5))) (aa (af ai (mv 0) (mc (.int 6))) ah))) (aa (af ai (mv 1) (mc (.int 1))) ah))) (aa (aT (aa (af fh (cK cn (af ai (mv 1) (mc (.int 3)))) (af ai (mv 1) (mc (.int 4)))) (aa (mc (.int 1)) ah))) ah))) E2 s=.nx E3 s:=by unfold aO;rw[c3];rfl
 show au _ _ E s=_
 unfold au
 rw[t2]
 dsimp only
 rw[t3]
 refine all.trans ?_
 unfold oz
 have y1:decide (f.num < 0)=!decide (0<=f.num):=by rw[<-decide_not];apply decide_eq_decide.mpr;omega
 have y2:decide (k.num < 0)=!decide (0<=k.num):=by rw[<-decide_not];apply decide_eq_decide.mpr;omega
 have y3:decide (r+k=r0+k0+e+((-w - d:Int):Rat))=decide (cG [r,k]=cG [r0,k0,e] - ((w+d:Int):Rat)):=by
  apply decide_eq_decide.mpr
  have e1:((-w - d:Int):Rat)=-((w+d:Int):Rat):=by rw[show(-w - d:Int)=-(w+d) by omega,Rat.intCast_neg]
  rw[e1]
  simp only[cG,Rat.sub_eq_add_neg,Rat.add_assoc,Rat.add_zero]
 rw[y1,y2,y3]
 generalize decide (cG [r,k]=_)=b1
 generalize decide (0<=f.num)=b2
 generalize decide (k0.num * _ < _)=b3
 generalize decide (0<=k.num)=b4
 generalize decide (r.num < _)=b5
 cases b1<;>cases b2<;>cases b3<;>cases b4<;>cases b5<;>rfl
theorem yj {s:S}{x y:AV}(hx:dj x=true)(hy:dj y=true)(ox:jS 2 s x)(oy:jS 2 s y):bB [x,y] s=.ok (.bl (yp x y)) s:=by
 obtain⟨p0,e0,f0,w0,d0,r0,k0,g0,a0,rfl,_⟩:=i7 hx
 obtain⟨p,e,f,w,d,r,k,g,a,rfl,_,_,hg,ha⟩:=i7 hy
 rw[rg]
 exact xX s (lE ox) (lE oy)
def isAll (s:S)(v:AV):Bool:=match items v s with
 | some xs=>xs.all dj
 | none=>false
noncomputable abbrev yr:Ms:=dU (iM (cF (cT (cK ib (mv 2)))) (cF (cT (dm dC (aK [("_law_thing",none)] (aV (mv 2)) (gN 0) bE (aj 1 aX (aa (mv 0) ah))))))) (aU (mc (.bl false))) bH
theorem AM {s:S}{a b:Option AV}{v:AV}{x:Option AV}(h:mW s v) :
  (isAll s v=true->yr [a,b,some v,x] s=.nx [a,b,some v,x] s)/\(isAll s v=false->yr [a,b,some v,x] s=.rt (.bl false) s):=by
 have c:iM (cF (cT (cK ib (mv 2)))) (cF (cT (dm dC (aK [("_law_thing",none)] (aV (mv 2)) (gN 0) bE (aj 1 aX (aa (mv 0) ah)))))) [a,b,some v,x] s=.ok (!(isAll s v)) s:=by
  have k1:=zJ (m:=mv 2) (env:=[a,b,some v,x]) h.leaf rfl
  unfold isAll
  cases hi:items v s with
  | none=>
   rw[hi]at k1
   exact qI (aJ (x:=false) (bX k1))
  | some xs=>
   rw[hi]at k1
   exact h_ (aJ (x:=true) (bX k1)) (aJ (bX (vK (F:=aX) (l:=[("_law_thing",none)]) (m:=mv 2) (env:=[a,b,some v,x]) h hi rfl rfl λ x hx=>nz hx)))
 refine⟨λ t=>?_,λ t=>?_⟩<;>(rw[t]at c;unfold yr dU;rw[c];rfl)
theorem nC {s:S}{v w:AV}(hv:mW s v)(hw:mW s w)(hp:Pair s v w):∃ z,br [v,w] s=.ok (.bl (fB s v w)) (s++z):=by
 have fin:∀ {u:AV}{z:S},b7 [some v,some w,none,none] s=.rt u (s++z)->br [v,w] s=.ok u (s++z):=λ {u z} h=>by
  unfold br gh
  show(match b7 [some v,some w,none,none] s with|.rt v s1=>R.ok v s1|.nx _ s1=>.ok .aY s1|.ex c s1=>.ex c s1|_=>.bad)=_
  rw[h]
 obtain⟨p1,p2⟩:=AM (a:=some v) (b:=some w) (x:=none) hv
 obtain⟨q1,q2⟩:=AM (a:=some v) (b:=some w) (x:=none) hw
 have PD:isAll s v=false->dt s v=false:=λ h=>by
  unfold isAll at h;unfold dt
  split<;>rename_i e<;>rw[e]at h
  ·dsimp only at h;rw[h];rfl
 have PB:isAll s w=false->dt s w=false:=λ h=>by
  unfold isAll at h;unfold dt
  split<;>rename_i e<;>rw[e]at h
  ·dsimp only at h;rw[h];rfl
 cases t1:isAll s v with
 | false=>
  refine⟨[],fin ?_⟩
  rw[List.append_nil]
  unfold b7 au
  rw[GN]
  show(match (match yr [some v,some w,some v,none] s with
   | .nx e2 s2=>forL (gN 2) yr [] [w] e2 s2|.ct e2 s2=>forL (gN 2) yr [] [w] e2 s2|.bk e2 s2=>.nx e2 s2|q=>q) with|.nx e s1=>_|r=>r)=_
  rw[p2 t1]
  unfold fB
  rw[PD t1];rfl
 | true=>
  cases t2:isAll s w with
  | false=>
   refine⟨[],fin ?_⟩
   rw[List.append_nil]
   unfold b7 au
   rw[GN]
   show(match (match yr [some v,some w,some v,none] s with
    | .nx e2 s2=>forL (gN 2) yr [] [w] e2 s2|.ct e2 s2=>forL (gN 2) yr [] [w] e2 s2|.bk e2 s2=>.nx e2 s2|q=>q) with|.nx e s1=>_|r=>r)=_
   rw[p1 t1]
   dsimp only
   rw[JQ,q2 t2]
   unfold fB
   rw[PB t2]
   cases dt s v<;>rfl
  | true=>
   obtain⟨xs,h,hr⟩:∃ xs,items v s=some xs/\xs.all dj=true:=by
    unfold isAll at t1
    split at t1
    ·rename_i xs e;exact⟨xs,e,t1⟩
    ·cases t1
   obtain⟨ys,k,kr⟩:∃ xs,items w s=some xs/\xs.all dj=true:=by
    unfold isAll at t2
    split at t2
    ·rename_i xs e;exact⟨xs,e,t2⟩
    ·cases t2
   let s1:S:=s++[.lst ((xs.map bP).map AV.str)]
   refine⟨[.lst ((xs.map bP).map AV.str)],fin ?_⟩
   unfold b7 au
   rw[GN]
   show(match (match yr [some v,some w,some v,none] s with
    | .nx e2 s2=>forL (gN 2) yr [] [w] e2 s2|.ct e2 s2=>forL (gN 2) yr [] [w] e2 s2|.bk e2 s2=>.nx e2 s2|q=>q) with|.nx e s1=>_|r=>r)=_
   rw[p1 t1]
   dsimp only
   rw[JQ,q1 t2]
   dsimp only
   have k3:=cJ (kK (l:=[("_law_thing",none)]) (m:=mv 0) (env:=[some v,some w,some w,none]) hv h hr rfl rfl)
   have l1:aq s1 s.length=some ((xs.map bP).map AV.str):=aE _ _
   let E:En:=[some v,some w,some w,some (.ref s.length)]
   have e3:aO 3 (aF (aK [("_law_thing",none)] (aV (mv 0)) (gN 0) bE (af ai (mv 0) (mc (.int 0))))) [some v,some w,some w,none] s=.nx E s1:=by
    unfold aO;rw[k3];rfl
   rw[e3]
   dsimp only
   have P9:mW s1 v:=qN hv
   have Oa:mW s1 w:=qN hw
   have h1:items v s1=some xs:=by rw[g6 hv.leaf];exact h
   have k1:items w s1=some ys:=by rw[g6 hw.leaf];exact k
   have a2:=cJ (kK (l:=[("_law_thing",none)]) (m:=mv 1) (env:=E) (s:=s1) Oa k1 kr rfl rfl)
   have c1:xY (cB (af cY (mv 3) (aF (aK [("_law_thing",none)] (aV (mv 1)) (gN 0) bE (af ai (mv 0) (mc (.int 0))))))) E s1=.ok (!decide (xs.map bP=ys.map bP)) s1:=by
    refine zt (A:=mv 3) rfl a2 ?_ (by rw[List.take_left'];rfl)
    unfold cY
    rw[l8 (aL l1) (aE _ _)];rfl
   have g1:oA (mv 3) E s1=.ok ((df (Sx.uniq (xs.map bP))).map AV.str) s1:=by
    show(need (aq s1 s.length) λ l=>nE l s1)=_
    rw[l1,aG]
    unfold nE
    rw[nj,aG,if_pos (by rw[List.length_map];have:=(hv.rows xs h).1;omega)]
   have c2:xY (cB (af cY (mv 3) (aF (oA (mv 3))))) E s1=.ok (!(dn (xs.map bP))) s1:=by
    rw[xu]
    refine zt (A:=mv 3) rfl (cJ g1) ?_ (by rw[List.take_left'];rfl)
    unfold cY
    rw[l8 (aL l1) (aE _ _)];rfl
   have O':dt s v=dn (xs.map bP):=by unfold dt;rw[h];dsimp only;rw[hr];rfl
   have O_:dt s w=dn (ys.map bP):=by unfold dt;rw[k];dsimp only;rw[kr];rfl
   unfold fB
   rw[O',O_,h,k]
   dsimp only[Option.map_some]
   by_cases en:xs.map bP=ys.map bP
   ·rw[decide_eq_true en]at c1
    rw[decide_eq_true (congrArg some en),<-en]
    cases Hq:dn (xs.map bP) with
    | false=>
     rw[Hq]at c2
     exact i8 (h_ c1 c2)
    | true=>
     rw[Hq]at c2
     have c4:=sJ (F:=bB) (l:=[("_law_first",none),("_law_second",none)]) (m:=mv 0) (m2:=mv 1) (env:=E) P9 Oa h1 k1 hr kr (hp xs ys h k en) rfl rfl rfl λ x y a b c d=>yj a b c d
     exact og (h_ c1 c2) (dZ c4)
   ·rw[decide_eq_false en]at c1
    rw[decide_eq_false (λ z=>en (Option.some.inj z))]
    rw[show(dn (xs.map bP) && (dn (ys.map bP) && (false && _)))=false by cases dn (xs.map bP)<;>cases dn (ys.map bP)<;>rfl]
    exact i8 (qI c1)
def Rt (s:S)(x:AV):Prop:=fd 2 x∨∃ i es,x=.ref i/\aq s i=some es/\es.length<=24/\∀ e∈es,fd 1 e
theorem Rt.app {s z:S}{x:AV}(h:Rt s x):Rt (s++z) x:=by
 rcases h with h|⟨i,es,e,l,k⟩
 ·exact .inl h
 ·exact .inr ⟨i,es,e,aL l,k⟩
theorem Rt.jS {s:S}{x:AV}(h:Rt s x):jS 2 s x:=by
 rcases h with h|⟨i,es,rfl,l,k⟩
 ·exact Ax h 2 s
 ·exact LL (nu l).ok (λ _ e=>nomatch e)
where
 LL {s:S}{v:AV}(h:Ro.jS 1 s v) (k:∀ xs,v=.tup xs->∀ x∈xs,∀ ys,x≠.tup ys):Ro.jS 2 s v:=
  ⟨h.1,λ xs e=>⟨(h.2 xs e).1,λ x hx=>⟨(h.2 xs e).2 x hx,λ ys e2=>absurd e2 (k xs e x hx ys)⟩⟩⟩
theorem Rt.toP {s:S}{x:AV}(h:Rt s x){m:Nat}(hm:2<=m):∃ d,toP m s x=some d/\yt 2 (Bd 2) d:=by
 rcases h with h|⟨i,es,rfl,l,k,f⟩
 ·exact vh h m s hm
 ·cases m with
  | zero=>omega
  | succ m=>
   obtain⟨q,e1,e2,e3⟩:=mY (P:=yt 1 (Bd 1)) (f:=Mm.toP m s) λ x hx=>vh (f x hx) m s (by omega)
   refine⟨.list q,?_,vR (w:=24) (by omega) e3⟩
   unfold Mm.toP
   rw[ay l]
   dsimp only
   rw[e1];rfl
structure rY (s:S)(v:AV)(xs:List AV):Prop where
 lf:dD s v
 sq:xR v=false
 it:items v s=some xs
 ln:xs.length<=12
 rt:∀ x∈xs,Rt s x
theorem rY.app {s z:S}{v:AV}{xs:List AV}(h:rY s v xs):rY (s++z) v xs:=⟨kP h.lf,h.sq,by rw[g6 h.lf];exact h.it,h.ln,λ x hx=>(h.rt x hx).app⟩
theorem rY.mW {s:S}{v:AV}{xs:List AV}(h:rY s v xs):mW s v:=⟨h.lf,h.sq,λ ys e=>by rw[h.it]at e;cases e;exact⟨by have:=h.ln;omega,λ x hx=>(h.rt x hx).jS⟩⟩
theorem rY.toP {s:S}{v:AV}{xs:List AV}(h:rY s v xs){m:Nat}(hm:3<=m):∃ d,toP m s v=some d/\yt 3 (12 * (Bd 2+2)+3) d:=by
 cases m with
 | zero=>omega
 | succ m=>
  obtain⟨q,e1,e2,e3⟩:=mY (P:=yt 2 (Bd 2)) (f:=Mm.toP m s) λ x hx=>(h.rt x hx).toP (m:=m) (by omega)
  have hi:=h.it
  have hl:=h.ln
  cases v with
  | tup ys=>
   have hi:some ys=some xs:=hi
   cases hi
   exact⟨.tuple q,by unfold Mm.toP;rw[e1];rfl,vQ (w:=12) (by omega) e3⟩
  | ref i=>
   have hi:aq s i=some xs:=hi
   refine⟨.list q,?_,vR (w:=12) (by omega) e3⟩
   unfold Mm.toP
   rw[ay hi]
   dsimp only
   rw[e1];rfl
  | sq ys=>cases h.sq
  | _=>cases hi
theorem Rp:12 * (Bd 2+2)+3=6581727:=by decide
theorem Lm {s:S}{v w:AV}{xs ys:List AV}(hv:rY s v xs)(hw:rY s w ys):∃ t,∀ env:En,mv 0 env s=.ok v s->mv 1 env s=.ok w s->gu (gp ia (aa (aF (bz (aa (mv 0) (aa (mv 1) ah)))) ah)) env s=.ok (.str t) s:=by
 let s1:S:=s++[.lst [v,w]]
 obtain⟨d1,a1,p1⟩:=(hv.app (z:=[.lst [v,w]])).toP (m:=19) (by decide)
 obtain⟨d2,a2,p2⟩:=(hw.app (z:=[.lst [v,w]])).toP (m:=19) (by decide)
 have e:toP 20 s1 (.ref s.length)=some (.list [d1,d2]):=by
  unfold Mm.toP
  rw[ay (aE s [v,w])]
  dsimp only
  rw[List.mapM_cons,a1,List.mapM_cons,a2,List.mapM_nil];rfl
 have sh:KQ (.list [d1,d2]):=by
  obtain⟨b1,b2,b3⟩:=mV (n:=3) (B:=12 * (Bd 2+2)+3) (l:=[d1,d2]) (by intro d hd;simp only[List.mem_cons,List.not_mem_nil,or_false]at hd;rcases hd with rfl|rfl<;>assumption)
  refine⟨by simpa[PyData.showable]using b1,λ h=>?_,by simp only[PyData.depth];omega,?_⟩
  ·have:PyData.hasDict (.list [d1,d2])=false:=by simpa[PyData.hasDict]using b2
   rw[this]at h;cases h
  ·show(PyData.shown (.list [d1,d2])).length<=_
   simp only[PyData.shown]
   have:=wa (b:=12 * (Bd 2+2)+3) (ts:=PyData.shownAll [d1,d2]) λ t ht=>by
    obtain⟨d,hd,rfl⟩:=fP ht
    simp only[List.mem_cons,List.not_mem_nil,or_false]at hd
    rcases hd with rfl|rfl
    ·exact p1.ln
    ·exact p2.ln
   rw[fQ,Rp]at this
   have hz:sizeLine=2 ^ 24:=rfl
   simp only[List.length_cons,List.length_nil]at this
   omega
 refine⟨sg (.list [d1,d2]),λ env h0 h1=>?_⟩
 have n1:aF (bz (aa (mv 0) (aa (mv 1) ah))) env s=.ok (.ref s.length) s1:=cJ (dy (aH h0 (aH h1 rfl)) (by simp))
 have o1:gp ia (aa (aF (bz (aa (mv 0) (aa (mv 1) ah)))) ah) env s=.ok (.str (sg (.list [d1,d2]))) (s++[.lst [v,w]]):=by
  unfold gp aa ah
  unfold aa ah at n1
  rw[n1]
  show(need (toP 20 s1 (.ref s.length)) λ d=>if KQ d then R.ok (AV.str (sg d)) s1 else .bad)=_
  rw[e,aG,if_pos sh]
 exact Ao o1 (by simp[AV.low])
theorem yS {s:S}{v w:AV}{xs ys:List AV}(hv:rY s v xs)(hw:rY s w ys)(hp:Pair s v w):bG [v,w] s=.ok (.bl true) s:=by
 obtain⟨t,ht⟩:=Lm hv hw
 have sh:=yN hv.mW hw.mW hp
 have Pe:bc [v,w] s=.ok (.bl (fB s v w)) (s++[]):=by rw[List.append_nil];exact sh
 obtain⟨z3,ls⟩:=nC hv.mW hw.mW hp
 let E2:En:=[some v,some w,some (.str t),none]
 let E3:En:=[some v,some w,some (.str t),some (.bl (fB s v w))]
 have t1:aO 2 (gu (gp ia (aa (aF (bz (aa (mv 0) (aa (mv 1) ah)))) ah))) [some v,some w,none,none] s=.nx E2 s:=by
  unfold aO;rw[ht _ rfl rfl];rfl
 have t2:aO 3 (gu (aj 2 bc (aa (mv 0) (aa (mv 1) ah)))) E2 s=.nx E3 s:=by
  unfold aO
  rw[ve (m:=mv 0) (m2:=mv 1) (env:=E2) rfl rfl Pe];rfl
 have t3:eJ (cK (bU "bool") (mv 3)) (eJ (af bI (mv 3) (gu (aj 2 br (aa (mv 0) (aa (mv 1) ah))))) (af bI (gu (gp ia (aa (aF (bz (aa (mv 0) (aa (mv 1) ah)))) ah))) (mv 2))) E3 s=.ok (.bl (true && (true && true))) s:=by
  refine eU (gB ⟨_,rfl⟩ rfl (by unfold cw;rfl)) λ _=>eU (ax rfl (ve rfl rfl ls) ?_) λ _=>ax (ht E3 rfl rfl) rfl ?_
  ·show R.ok (AV.bl (decide (fB s v w=fB s v w))) s=_
   simp
  ·show R.ok (AV.bl (decide (t=t))) s=_
   simp
 refine cq ?_
 show fS [some v,some w,none,none] s=_
 unfold fS au
 rw[t1]
 dsimp only
 rw[t2]
 exact dZ t3
theorem MY {n:Nat}{b:Ms}{v w x:AV}{s:S}{Q:AV->S->Prop}(h:(b (some v :: some w :: some x :: List.replicate (n - 3) none) s).wp (λ _ s1=>Q .aY s1) Q):(gh n b [v,w,x] s).wp Q:=by rw[WS.2.2.2.2.2.2.2.2.2.2.2.2.2.2.2.2.2];exact h
theorem CP {n:Nat}{i:Int}(h:-(2 ^ n) < i) (k:i < 2 ^ n):bw n i:=by
 unfold bw
 have e:((2 ^ n:Nat):Int)=(2:Int) ^ n:=by norm_cast
 omega
theorem cL {c d n:Nat}{s:S}(D:Dr c d n s)(hn:n<=900001000){lo hi:Int}(l0:-1000000000<=lo)(l1:lo < hi)(l2:hi<=1000000000) :
  (aM [.ref d,.int lo,.int hi] s).wp λ v s'=>∃ q,v=fq q/\(0<=lo->0<=q.num)/\Sz 60 q/\Dr c d (n+3) s'/\Kp c d s s':=by
 unfold aM eF
 have p6:(10:Int) ^ (6:Int).toNat=1000000:=rfl
 simp only[↓WS,↓WE,↓WV,Lq,bR,UU,Nat.reduceSub,↓reduceIte,p6]
 refine⟨by decide,?_⟩
 refine(vU D (by omega) (xs:=[.int 1,.int 60,.int 1000000]) (m:=3) rfl (by omega) (by omega) (P:=λ b=>1<=b/\b<=1000000) ?_).mono ?_
 ·intro v hv
  simp only[List.mem_cons,List.not_mem_nil,or_false]at hv
  rcases hv with rfl|rfl|rfl<;>exact⟨_,rfl,by omega,by omega⟩
 rintro w s1 ⟨b,eb,⟨b0,b1⟩,al,D1,K1⟩
 simp only[↓WS,↓WE,↓WV,Lq,bR,UU,Nat.reduceSub,↓reduceIte,↓dJ eb,al,show AV.low s.length (.int b)=true by simp[AV.low]]
 refine(bp D1 (by omega) (by omega) (DJ (by omega) (by omega))).mono ?_
 rintro _ s2 ⟨x,rfl,x0,x1,D2,K2⟩
 have g1:1 * (1+x)<=(hi - lo) * (1+x):=Int.mul_le_mul_of_nonneg_right (by omega) (by omega)
 have g2:(hi - lo) * (1+x)<=2000000000 * (1+x):=Int.mul_le_mul_of_nonneg_right (by omega) (by omega)
 try walk_at "w"
 refine⟨⟨a5 (cA (n:=40) (by omega) (by omega)) (by decide),a5 (cA (n:=40) (by omega) (by omega)) (by decide)⟩,?_⟩
 refine(bp D2 (by omega) (by omega) ((cA (n:=60) (by omega) (by omega)).mono (by decide))).mono ?_
 rintro _ s3 ⟨y,rfl,y0,y1,D3,K3⟩
 have es:=kA (n:=60) (a:=lo) (b:=1) (c:=y) (d:=1+x) s3 (by decide) (by omega) (by decide) (CP (by omega) (by omega)) (cA (by decide) (by decide)) (cA (by omega) (by omega)) (cA (by omega) (by omega))
 have g3:-1000000000 * (1+x)<=lo * (1+x):=Int.mul_le_mul_of_nonneg_right l0 (by omega)
 have g4:lo * (1+x)<=1000000000 * (1+x):=Int.mul_le_mul_of_nonneg_right (by omega) (by omega)
 rw[Int.mul_one,Int.one_mul]at es
 simp only[↓WS,↓WE,↓WV,Lq,bR,UU,Nat.reduceSub,↓reduceIte,↓dJ es]
 refine⟨_,rfl,λ h=>zo ?_ (by omega),Ar (by omega) (CP (by omega) (by omega)) (cA (by omega) (by omega)),D3.mono (by omega),(K1.trans K2).trans K3⟩
 have:0<=lo * (1+x):=Int.mul_nonneg h (by omega)
 omega
theorem part7 {k0:Rat}(h:0<=k0.num){t:Int}(t0:0<=t)(t1:t<=7):0<=(Rat.divInt (k0.num * t) (k0.den * 7)).num/\¬ (k0.num * (Rat.divInt (k0.num * t) (k0.den * 7)).den < (Rat.divInt (k0.num * t) (k0.den * 7)).num * k0.den):=by
 have kd:=k0.den_pos
 have hb:((k0.den:Int) * 7)≠0:=by omega
 have e:Rat.divInt (k0.num * t) (k0.den * 7)+Rat.divInt (k0.num * (7 - t)) (k0.den * 7)=k0:=by
  rw[div_add hb,<-Int.mul_add,show t+(7 - t)=7 by omega,Rat.divInt_mul_right (by decide),Rat.num_divInt_den]
 have p:=GW (j:=k0.num * (7 - t)) (b:=(k0.den:Int) * 7) (Int.mul_nonneg h (by omega)) (by omega)
 refine⟨zo (Int.mul_nonneg h t0) (by omega),?_⟩
 have le:Rat.divInt (k0.num * t) (k0.den * 7)<=k0:=by grind
 have:=(Rat.le_iff _ _).mp le
 omega
theorem uD {k0:Rat}{t:Int}(s:S)(z:Sz 60 k0)(t0:0<=t)(t1:t<=7):c5 [fq k0,.int t,.int 7] s=.ok (fq (Rat.divInt (k0.num * t) (k0.den * 7))) s/\Sz 70 (Rat.divInt (k0.num * t) (k0.den * 7)):=by
 have kd:=k0.den_pos
 have f7:bw 4 (7:Int):=cA (by decide) (by decide)
 have ft:bw 4 t:=cA t0 (by omega)
 have fa:bw 70 (k0.num * t):=(z.a.mul ft).mono (by decide)
 have fb:bw 70 ((k0.den:Int) * 7):=(z.b.mul f7).mono (by decide)
 have bg:∀ {n:Nat}{i:Int},bw n i->n<=60->rZ i:=λ h k=>a5 h (by omega)
 have es:=kA (n:=70) (a:=k0.num * t) (b:=(k0.den:Int) * 7) (c:=0) (d:=1) s (by omega) (by decide) (by decide) fa fb (cA (by decide) (by decide)) (cA (by decide) (by decide))
 rw[Int.mul_one,Int.zero_mul,Int.add_zero,Int.mul_one]at es
 refine⟨cq (dZ (call2 (cj (vs:=[.int (k0.num * t),.int (k0.den * 7)]) (aH (ax (ax rfl rfl (GL _ _)) rfl (ie (bg z.a (by decide)) (bg ft (by decide)))) (aH (ax (ax rfl rfl (GK _ _)) rfl (ie (bg z.b (by decide)) (bg f7 (by decide)))) rfl)) (by simp)) (cj (vs:=[.int 0,.int 1]) rfl (by simp)) es)),Ar (by omega) fa fb⟩
theorem yL {c d n:Nat}{s:S}(D:Dr c d n s)(hn:n<=900001000){b:Int}(b0:1<=b)(b1:b<=1000000000){l:Lc}{env:En}(e2:hU l env=[none,some (.ref d),some (.int b)]) :
  (aK l (nA (aa (mc (.int 8)) ah)) (gN 0) bE (af bf (aj 2 ar (aa (mv 1) (aa (mc (.int 3)) ah))) (aj 2 ar (aa (mv 1) (aa (mv 2) ah)))) env s).wp λ vs s'=>∃ is:List Int,vs=is.map AV.int/\is.length=8/\(∀ i∈is,0<=i/\i<=2000000000)/\Dr c d (n+16) s'/\Kp c d s s':=by
 rw[WE.2.2.2.2.2.2.2.2.2.2.2.2.2.2.2.2.2.2.2.2.2.1,e2,ki]
 try walk_at "w"
 refine⟨⟨by decide,by decide⟩,Bj (by simp[gI]),?_⟩
 refine lb (λ xs acc env st=>∃ (is:List Int) (x:Option AV),acc=is.map AV.int/\xs.length+is.length=8/\(∀ i∈is,0<=i/\i<=2000000000)/\env=[x,some (.ref d),some (.int b)]/\Dr c d (n+2 * is.length) st/\Kp c d s st) ?_ ?_ ?_ _ _ _ _ ⟨[],none,rfl,by simp[gI],(λ _ h=>nomatch h),rfl,D,Kp.refl c d s⟩
 ·exact λ _ _ _ st _=>bu st
 ·rintro acc env st ⟨is,x,rfl,hl,hi,rfl,D1,K1⟩
  have hl:0+is.length=8:=hl
  exact⟨is,rfl,by omega,hi,D1.mono (by omega),K1⟩
 ·rintro v r acc env st ⟨is,x,rfl,hl,hi,rfl,D1,K1⟩
  have hl:r.length+1+is.length=8:=hl
  try walk_at "w"
  refine(bp D1 (by omega) (by omega) (g_ (by omega) (by omega))).mono ?_
  rintro _ s1 ⟨a,rfl,a0,a1,D2,K2⟩
  try walk_at "w"
  refine(bp D2 (by omega) (by omega) (DJ (by omega) (by omega))).mono ?_
  rintro _ s2 ⟨q,rfl,q0,q1,D3,K3⟩
  try walk_at "w"
  have g0:0<=a * q:=Int.mul_nonneg a0 q0
  have g1:a * q<=2 * q:=Int.mul_le_mul_of_nonneg_right (by omega) q0
  refine⟨⟨a5 (cA (n:=40) (by omega) (by omega)) (by decide),a5 (cA (n:=40) (by omega) (by omega)) (by decide)⟩,is++[a * q],_,by simp,by simp;omega,λ i wC=>?_,rfl,D3.mono (by simp;omega),(K1.trans K2).trans K3⟩
  rcases List.mem_append.mp wC with h|h
  ·exact hi i h
  ·rw[List.mem_singleton.mp h];exact⟨g0,by omega⟩
structure Rk (p:Str)(x:AV):Prop where
 ex:∃ e f w d r k g a,x=eI p e f w d r k g a/\(∀ q∈[e,f,r,k],Sz 700 q)/\∀ i∈[w,d,g,a],0<=i/\bw 400 i
abbrev AB (d:Nat)(p:Str)(x2 x3 x4 x5 x6 x7 x8 x9 rS O4 x12 O3 O2:Option AV):En:=[some (.ref d),some (.str p),x2,x3,x4,x5,x6,x7,x8,x9,rS,O4,x12,O3,O2]
theorem lR {s:S}{i:Nat}{is:List Int}(h:aq s i=some (is.map AV.int)) {P:Int->Prop}(hp:∀ i∈is,P i){j:Nat}(hj:j < is.length):∃ x,ai (.ref i) (.int j) s=.ok (.int x) s/\P x:=by
 refine⟨is[j],?_,hp _ (List.getElem_mem hj)⟩
 show(need (aq s i) λ xs=>need (gS xs j) λ v=>R.ok v s)=_
 rw[h,aG,e7 (v:=.int is[j]) (by rw[List.getElem?_map,List.getElem?_eq_getElem hj];rfl)];rfl
theorem BU {c d n:Nat}{s:S}(D:Dr c d n s)(hn:n<=900000000){p:Str}:(dP [.ref d,.str p] s).wp λ v s'=>∃ x y,v=.tup [x,y]/\Rk p x/\Rk p y/\yp x y=true/\Dr c d (n+60) s'/\Gk c d s s':=by
 unfold dP jm
 refine Au ?_
 have lc:=D.v8
 have ld:=D.v7
 refine aB λ K hK=>?_
 have p9:(10:Int) ^ (9:Int).toNat=1000000000:=rfl
 try simp only[↓WS,↓WE,↓WV,Lq,bR,UU,Nat.reduceSub,↓reduceIte,p9]
 refine⟨by decide,?_⟩
 refine(vU D (by omega) (xs:=[.int 2,.int 50,.int 1000000000]) (m:=3) rfl (by omega) (by omega) (P:=λ b=>2<=b/\b<=1000000000) ?_).mono ?_
 ·intro v hv
  simp only[List.mem_cons,List.not_mem_nil,or_false]at hv
  rcases hv with rfl|rfl|rfl<;>exact⟨_,rfl,by omega,by omega⟩
 rintro w s1 ⟨b,eb,⟨b0,b1⟩,al,D1,K1⟩
 try simp only[↓WS,↓WE,↓WV,Lq,bR,UU,Nat.reduceSub,↓reduceIte,↓dJ eb,al,show AV.low s.length (.int b)=true by simp[AV.low]]
 rw[hK]
 clear hK K eb al
 revert D1 K1
 generalize List.take s.length s1=Pg
 intro D1 K1
 refine aB λ K hK=>?_
 try walk_at "w"
 refine(cL D1 (by omega) (by omega) (by omega) (by omega)).mono ?_
 rintro _ s2 ⟨r0,rfl,_,r0z,D2,K2⟩
 try walk_at "w"
 refine(cL D2 (by omega) (by omega) (by omega) (by omega)).mono ?_
 rintro _ s3 ⟨k0,rfl,k0n,k0z,D3,K3⟩
 have k0n:=k0n (by decide)
 try walk_at "w"
 rw[hK]
 clear hK K
 have K13:=(K1.trans K2).trans K3
 clear K1 K2 K3 D1 D2
 show(au _ _ (AB d p (some (.int b)) none none none none none none none none (some (fq r0)) (some (fq k0)) none none) s3).wp _ _
 refine aB λ K hK=>?_
 rw[WS.2.1,WE.2.2.2.2.2.1]
 refine(yL D3 (by omega) (by omega) b1 rfl).mono ?_
 rintro _ s4 ⟨is,rfl,RK,hi,D4,K4⟩
 rw[hK]
 clear hK K
 have D5:=D4.app (e:=[.lst (is.map AV.int)]) (D4.cl.add (by simp[AO.low,low_ints]))
 have l5:=aE s4 (is.map AV.int)
 have G5:Gk c d s (s4++[.lst (is.map AV.int)]):=(K13.trans K4).gk.trans (Gk.app c d s4 _)
 have h4:s4.length=s.length:=(K13.trans K4).len
 rw[h4]at l5
 clear K13 K4 D3 D4
 show(au _ _ (AB d p (some (.int b)) (some (.ref s4.length)) none none none none none none none (some (fq r0)) (some (fq k0)) none none) _).wp _ _
 rw[h4]
 revert D5 l5 G5
 generalize s4++[.lst (is.map AV.int)]=s5
 intro D5 l5 G5
 refine aB λ K hK=>?_
 try walk_at "w"
 refine(cL D5 (by omega) (by omega) (by omega) (by omega)).mono ?_
 rintro _ s6 ⟨e0,rfl,_,e0z,D6,K6⟩
 try walk_at "w"
 refine(cL D6 (by omega) (by omega) (by omega) (by omega)).mono ?_
 rintro _ s7 ⟨f0,rfl,f0n,f0z,D7,K7⟩
 have G7:=(G5.trans K6.gk).trans K7.gk
 have l7:=K7.gk.lst (n:=0) (by omega) (by omega) (K6.gk.lst (n:=0) (by omega) (by omega) l5)
 obtain⟨w0,KI,O7,O6⟩:=lR l7 hi (j:=0) (by omega)
 obtain⟨d0,KL,Q_,Q9⟩:=lR l7 hi (j:=1) (by omega)
 have KI:(need (aq s7 s.length) λ xs=>need (gS xs 0) λ v=>R.ok v s7)=.ok (.int w0) s7:=KI
 have KL:(need (aq s7 s.length) λ xs=>need (gS xs 1) λ v=>R.ok v s7)=.ok (.int d0) s7:=KL
 try walk_at "w"
 rw[dJ KI,dJ KL]
 refine⟨Bj (by simp),?_⟩
 rw[hK]
 clear hK K D5 D6 K6 K7 l5 G5 KI KL
 show(au _ _ (AB d p (some (.int b)) (some (.ref s.length)) (some (.tup [.str p,fq e0,fq f0,.int w0,.int d0,fq r0,fq k0])) none none none none none none (some (fq r0)) (some (fq k0)) none none) s7).wp _ _
 refine aB λ K hK=>?_
 try walk_at "w"
 refine(cL D7 (by omega) (by omega) (by omega) (by omega)).mono ?_
 rintro _ s8 ⟨e,rfl,_,ez,D8,K8⟩
 try walk_at "w"
 refine(cL D8 (by omega) (by omega) (by omega) (by omega)).mono ?_
 rintro _ s9 ⟨k,rfl,kn,kz,D9,K9⟩
 have kn:=kn (by decide)
 try walk_at "w"
 rw[hK]
 clear hK K
 have G9:=(G7.trans K8.gk).trans K9.gk
 have l9:=K9.gk.lst (n:=0) (by omega) (by omega) (K8.gk.lst (n:=0) (by omega) (by omega) l7)
 clear K8 K9 D7 D8 G7 l7
 show(au _ _ (AB d p (some (.int b)) (some (.ref s.length)) (some (.tup [.str p,fq e0,fq f0,.int w0,.int d0,fq r0,fq k0])) none none none none none none (some (fq r0)) (some (fq k0)) (some (fq e)) (some (fq k))) s9).wp _ _
 refine aB λ K hK=>?_
 try walk_at "w"
 refine(bp D9 (by omega) (by omega) (g_ (by omega) (by omega))).mono ?_
 rintro _ o7 ⟨t,rfl,t0,t1,D10,K10⟩
 obtain⟨et,fz⟩:=uD (k0:=k0) (t:=t) o7 k0z t0 (by omega)
 obtain⟨fn,fl⟩:=part7 (k0:=k0) k0n t0 (by omega)
 try walk_at "w"
 rw[dJ et,hK]
 clear hK K et
 revert fz fn fl
 generalize Rat.divInt (k0.num * t) (k0.den * 7)=f
 intro fz fn fl
 have G10:=G9.trans K10.gk
 have N5:=K10.gk.lst (n:=0) (by omega) (by omega) l9
 clear K10 D9 G9 l9
 let E6:=AB d p (some (.int b)) (some (.ref s.length)) (some (.tup [.str p,fq e0,fq f0,.int w0,.int d0,fq r0,fq k0])) (some (fq f)) none none none none none (some (fq r0)) (some (fq k0)) (some (fq e)) (some (fq k))
 show(au _ _ E6 o7).wp _ _
 refine aB λ K hK=>?_
 have c1:aj 2 ak (aa (mv 11) (aa (mv 12) ah)) E6 o7=.ok (fq (r0+k0)) o7:=call2 rfl rfl (dY o7 (n:=60) (by decide) r0z k0z)
 have z1:Sz 130 (r0+k0):=(r0z.add k0z).mono (by decide)
 have c2:aj 2 ak (aa (aj 2 ak (aa (mv 11) (aa (mv 12) ah))) (aa (mv 13) ah)) E6 o7=.ok (fq (r0+k0+e)) o7:=call2 c1 rfl (dY o7 (n:=130) (by decide) z1 (ez.mono (by decide)))
 have z2:Sz 200 (r0+k0+e):=(z1.add ez).mono (by decide)
 have c3:aj 2 ak (aa (aj 2 ak (aa (aj 2 ak (aa (mv 11) (aa (mv 12) ah))) (aa (mv 13) ah))) (aa (aT (aa (cK cn (af ai (mv 14) (mc (.int 0)))) (aa (af ai (mv 14) (mc (.int 1))) ah))) ah)) E6 o7=.ok (fq (r0+k0+e+-k)) o7:=
  call2 c2 (cj (vs:=[.int (-k.num),.int k.den]) rfl (by simp)) (dY o7 (n:=200) (by decide) z2 (kz.neg.mono (by decide)))
 have wz:Sz 300 (r0+k0+e+-k):=(z2.add kz.neg).mono (by decide)
 refine Eq.mpr (gG c3 _ _) ?_
 rw[hK]
 clear hK K c1 c2 c3 z1 z2
 obtain⟨wh,Mh⟩:∃ wh:Rat,r0+k0+e+-k=wh:=⟨_,rfl⟩
 rw[Mh]at wz
 show(au _ _ (AB d p (some (.int b)) (some (.ref s.length)) (some (.tup [.str p,fq e0,fq f0,.int w0,.int d0,fq r0,fq k0])) (some (fq f)) (some (fq (r0+k0+e+-k))) none none none none (some (fq r0)) (some (fq k0)) (some (fq e)) (some (fq k))) o7).wp _ _
 rw[Mh]
 let E7:=AB d p (some (.int b)) (some (.ref s.length)) (some (.tup [.str p,fq e0,fq f0,.int w0,.int d0,fq r0,fq k0])) (some (fq f)) (some (fq wh)) none none none none (some (fq r0)) (some (fq k0)) (some (fq e)) (some (fq k))
 show(au _ _ E7 o7).wp _ _
 refine aB λ K hK=>?_
 have RL:=wh.den_pos
 obtain⟨co,KD⟩:∃ co:Int,(if wh.num.fdiv wh.den > 0 then wh.num.fdiv wh.den else 0)=co:=⟨_,rfl⟩
 have RX:0<=co:=by rw[<-KD];split<;>omega
 have Rc:wh.num.fdiv wh.den<=co:=by rw[<-KD];split<;>omega
 have KO:bw 301 co:=by
  rw[<-KD]
  split
  ·exact(x_ wz.a (by omega)).mono (by decide)
  ·exact cA (by decide) (by decide)
 have m7:gp sM (aa (mc (.int 0)) (aa (af di (af ai (mv 6) (mc (.int 0))) (af ai (mv 6) (mc (.int 1)))) ah)) E7 o7=.ok (.int co) o7:=by
  unfold gp
  rw[aH (vs:=[.int (wh.num.fdiv wh.den)]) rfl (aH (ax (v:=.int wh.num) (v2:=.int wh.den) rfl rfl (CQ (by omega) (ij wz.b (by decide)))) rfl),<-KD]
  rfl
 refine Eq.mpr (gG m7 _ _) ?_
 rw[hK]
 clear hK K m7
 show(au _ _ (AB d p (some (.int b)) (some (.ref s.length)) (some (.tup [.str p,fq e0,fq f0,.int w0,.int d0,fq r0,fq k0])) (some (fq f)) (some (fq wh)) (some (.int co)) none none none (some (fq r0)) (some (fq k0)) (some (fq e)) (some (fq k))) o7).wp _ _
 refine aB λ K hK=>?_
 try walk_at "w"
 have Rf:bw 302 (co+1):=KO.add (cA (n:=301) (by decide) (by decide))
 refine(bp D10 (by omega) (by omega) (Rf.mono (by decide))).mono ?_
 rintro _ RB ⟨t3,rfl,Rz,Ry,D12,K12⟩
 try walk_at "w"
 refine(Ih D12 (by omega) (xs:=[.int 0,.int co,.int t3]) (m:=3) rfl (by omega) (by omega) (λ b=>by simp[bx,AV.low])).mono ?_
 rintro _ Pf ⟨u,eu,hu,lu,al,D13,K13'⟩
 obtain⟨w,rfl,O5,Rq⟩:∃ w:Int,u=.int w/\0<=w/\w<=co:=by
  simp only[List.mem_cons,List.not_mem_nil,or_false]at hu
  rcases hu with rfl|rfl|rfl
  ·exact⟨_,rfl,by omega,by omega⟩
  ·exact⟨_,rfl,by omega,by omega⟩
  ·exact⟨_,rfl,by omega,by omega⟩
 rw[K12.len]at al lu D13 K13'
 try simp only[↓WS,↓WE,↓WV,Lq,bR,UU,Nat.reduceSub,↓reduceIte,↓dJ eu,al,lu]
 revert D13 K13' al
 generalize List.take o7.length Pf=yk
 intro al D13 K13'
 have G14:=(G10.trans K12.gk).trans K13'.gk
 have L9:=K13'.gk.lst (n:=0) (by omega) (by omega) (K12.gk.lst (n:=0) (by omega) (by omega) N5)
 clear K12 K13' eu al lu hu D12 D10 G10 N5
 rw[hK]
 clear hK K
 let E9:=AB d p (some (.int b)) (some (.ref s.length)) (some (.tup [.str p,fq e0,fq f0,.int w0,.int d0,fq r0,fq k0])) (some (fq f)) (some (fq wh)) (some (.int co)) (some (.int w)) none none (some (fq r0)) (some (fq k0)) (some (fq e)) (some (fq k))
 show(au _ _ E9 yk).wp _ _
 refine aB λ K hK=>?_
 have PM:=D13.v8
 have PL:=D13.v7
 obtain⟨x4,Q1,O1,O0⟩:=lR L9 hi (j:=4) (by omega)
 obtain⟨x5,Q0,OZ,OY⟩:=lR L9 hi (j:=5) (by omega)
 obtain⟨g,a,ow,QB,MD,QJ,Ow,eo⟩:∃ g a:Int,(w=co∨(g=0/\a=0))/\0<=g/\g<=2000000000/\0<=a/\a<=2000000000/\yl (cB (af bI (mv 8) (mv 7))) (aF (bz (aa (af ai (mv 3) (mc (.int 4))) (aa (af ai (mv 3) (mc (.int 5))) ah)))) (aF (bz (aa (mc (.int 0)) (aa (mc (.int 0)) ah)))) E9 yk=.ok (.ref yk.length) (yk++[.lst [.int g,.int a]]):=by
  have ec:cB (af bI (mv 8) (mv 7)) E9 yk=.ok (decide (w=co)) yk:=jh rfl
  by_cases h:w=co
  ·refine⟨x4,x5,.inl h,O1,O0,OZ,OY,?_⟩
   unfold yl
   rw[ec,ao,decide_eq_true h]
   exact cJ (dy (aH (ax rfl rfl Q1) (aH (ax rfl rfl Q0) rfl)) (by simp))
  ·refine⟨0,0,.inr ⟨rfl,rfl⟩,by omega,by omega,by omega,by omega,?_⟩
   unfold yl
   rw[ec,ao,decide_eq_false h]
   exact cJ (dy (aH rfl (aH rfl rfl)) (by simp))
 refine Eq.mpr (gG eo _ _) ?_
 rw[hK]
 clear hK K eo
 have D15:=D13.app (e:=[.lst [.int g,.int a]]) (D13.cl.add (by simp[AO.low,bx,AV.low]))
 have Kt:aq (yk++[.lst [.int g,.int a]]) s.length=some (is.map AV.int):=aL L9
 have Ks:aq (yk++[.lst [.int g,.int a]]) yk.length=some ([g,a].map AV.int):=aE _ _
 have G15:=G14.trans (Gk.app c d yk [.lst [.int g,.int a]])
 revert D15 Kt Ks G15
 generalize yk++[.lst [.int g,.int a]]=qE
 generalize yk.length=i9
 intro D15 Kt Ks G15
 let E10:=AB d p (some (.int b)) (some (.ref s.length)) (some (.tup [.str p,fq e0,fq f0,.int w0,.int d0,fq r0,fq k0])) (some (fq f)) (some (fq wh)) (some (.int co)) (some (.int w)) (some (.ref i9)) none (some (fq r0)) (some (fq k0)) (some (fq e)) (some (fq k))
 show(au _ _ E10 qE).wp _ _
 refine aB λ K hK=>?_
 have NZ:Sz 301 ((-co:Int):Rat):=jM KO.neg (by decide)
 have es:aj 2 ak (aa (mv 6) (aa (aT (aa (cK cn (mv 7)) (aa (mc (.int 1)) ah))) ah)) E10 qE=.ok (fq (wh+((-co:Int):Rat))) qE:=call2 rfl (cj (vs:=[.int (-co),.int 1]) rfl (by simp)) (dY qE (n:=301) (by decide) (wz.mono (by decide)) NZ)
 have rz:Sz 650 (wh+((-co:Int):Rat)):=(wz.add NZ).mono (by decide)
 have eo:aT (aa (mv 1) (aa (mv 13) (aa (mv 5) (aa (mv 8) (aa (af fh (mv 7) (mv 8)) (aa (aj 2 ak (aa (mv 6) (aa (aT (aa (cK cn (mv 7)) (aa (mc (.int 1)) ah))) ah))) (aa (mv 14) ah))))))) E10 qE=.ok (.tup [.str p,fq e,fq f,.int w,.int (co - w),fq (wh+((-co:Int):Rat)),fq k]) qE:=
  cj (aH rfl (aH rfl (aH rfl (aH rfl (aH rfl (aH es (aH rfl rfl))))))) (by simp)
 refine Eq.mpr (gG eo _ _) ?_
 rw[hK]
 clear hK K eo es
 have rd:wh+((-co:Int):Rat)=wh - (co:Rat):=by rw[Rat.intCast_neg];grind
 revert rz
 rw[rd]
 obtain⟨r,hr⟩:∃ r:Rat,wh - (co:Rat)=r:=⟨_,rfl⟩
 rw[hr]
 intro rz
 let E11:=AB d p (some (.int b)) (some (.ref s.length)) (some (.tup [.str p,fq e0,fq f0,.int w0,.int d0,fq r0,fq k0])) (some (fq f)) (some (fq wh)) (some (.int co)) (some (.int w)) (some (.ref i9)) (some (.tup [.str p,fq e,fq f,.int w,.int (co - w),fq r,fq k])) (some (fq r0)) (some (fq k0)) (some (fq e)) (some (fq k))
 show(aU _ E11 qE).wp _ _
 obtain⟨g0,Q4,QU,QT⟩:=lR Kt hi (j:=2) (by omega)
 obtain⟨a0,Q7,Rn,Rm⟩:=lR Kt hi (j:=3) (by omega)
 have eg:ai (.ref i9) (.int 0) qE=.ok (.int g) qE:=by
  show(need (aq qE i9) λ xs=>need (gS xs 0) λ v=>R.ok v qE)=_
  rw[Ks];rfl
 have ea:ai (.ref i9) (.int 1) qE=.ok (.int a) qE:=by
  show(need (aq qE i9) λ xs=>need (gS xs 1) λ v=>R.ok v qE)=_
  rw[Ks];rfl
 have t1:af av (mv 4) (aT (aa (af ai (mv 3) (mc (.int 2))) (aa (af ai (mv 3) (mc (.int 3))) ah))) E11 qE=.ok (eI p e0 f0 w0 d0 r0 k0 g0 a0) qE:=
  ax rfl (cj (aH (ax rfl rfl Q4) (aH (ax rfl rfl Q7) rfl)) (by simp)) (rP (xs:=[.str p,fq e0,fq f0,.int w0,.int d0,fq r0,fq k0]) (ys:=[.int g0,.int a0]) (by simp) (by simp))
 have t2:af av (mv 10) (aT (aa (af ai (mv 9) (mc (.int 0))) (aa (af ai (mv 9) (mc (.int 1))) ah))) E11 qE=.ok (eI p e f w (co - w) r k g a) qE:=
  ax rfl (cj (aH (ax rfl rfl eg) (aH (ax rfl rfl ea) rfl)) (by simp)) (rP (xs:=[.str p,fq e,fq f,.int w,.int (co - w),fq r,fq k]) (ys:=[.int g,.int a]) (by simp) (by simp))
 rw[WS.2.2.1,dJ (cj (aH t1 (aH t2 rfl)) (by simp))]
 have gv:oz r0 k0 e f w (co - w) r k g a=true:=by
  have h1:cG [r,k]=cG [r0,k0,e] - ((w+(co - w):Int):Rat):=by
   rw[show w+(co - w)=co by omega];simp only[cG];rw[<-hr,<-Mh];grind
  have h5:r.num < r.den:=Fl (by
   have:=JT wh Rc
   rw[Rat.intCast_add]at this
   rw[<-hr]
   have e1:((1:Int):Rat)=1:=rfl
   rw[e1]at this
   grind)
  have h6:(decide (co - w=0) || (decide (g=0) && decide (a=0)))=true:=by
   rcases ow with h|h
   ·simp[h]
   ·simp[h]
  unfold oz
  rw[h6,decide_eq_true h1,decide_eq_true fn,decide_eq_false fl,decide_eq_true kn,decide_eq_true h5]
  rfl
 have fi:∀ {i:Int},0<=i->i<=2000000000->0<=i/\bw 400 i:=λ h k=>⟨h,(cA (n:=40) h (by omega)).mono (by decide)⟩
 refine⟨_,_,rfl,⟨e0,f0,w0,d0,r0,k0,g0,a0,rfl,?_,?_⟩,⟨e,f,w,co - w,r,k,g,a,rfl,?_,?_⟩,by rw[rg];exact gv,D15.mono (by omega),G15⟩
 ·intro q hq
  simp only[List.mem_cons,List.not_mem_nil,or_false]at hq
  rcases hq with rfl|rfl|rfl|rfl
  ·exact e0z.mono (by decide)
  ·exact f0z.mono (by decide)
  ·exact r0z.mono (by decide)
  ·exact k0z.mono (by decide)
 ·intro q hq
  simp only[List.mem_cons,List.not_mem_nil,or_false]at hq
  rcases hq with rfl|rfl|rfl|rfl
  ·exact fi O7 O6
  ·exact fi Q_ Q9
  ·exact fi QU QT
  ·exact fi Rn Rm
 ·intro q hq
  simp only[List.mem_cons,List.not_mem_nil,or_false]at hq
  rcases hq with rfl|rfl|rfl|rfl
  ·exact ez.mono (by decide)
  ·exact fz.mono (by decide)
  ·exact rz.mono (by decide)
  ·exact kz.mono (by decide)
 ·intro q hq
  simp only[List.mem_cons,List.not_mem_nil,or_false]at hq
  rcases hq with rfl|rfl|rfl|rfl
  ·exact⟨O5,(KO.le (by omega)).mono (by decide)⟩
  ·exact⟨by omega,(KO.le (by omega)).mono (by decide)⟩
  ·exact fi QB MD
  ·exact fi QJ Ow
def Sm (t:Str)(n:Nat):Prop:=(∀ c∈t.cps.toList,vG c=true)/\t.length<=n
theorem Sm.nm {t:Str}(h:Sm t 8)(k:1<=t.length):isNm (.str t)=true/\iN t 8:=by
 refine⟨?_,λ c hc=>?_,h.2⟩
 ·show((decide (1<=t.length) && decide (t.length<=8)) && t.cps.toList.all vG)=true
  rw[decide_eq_true k,decide_eq_true h.2,List.all_eq_true.mpr h.1];rfl
 ·have:=h.1 c hc
  unfold vG at this
  simp only[Bool.and_eq_true,decide_eq_true_eq]at this
  omega
theorem Ha:∀ c∈("abcdefghijklmnopqrstuvwxyz":Str).cps.toList,vG c=true:=by decide +kernel
theorem pT {j:Int}(h0:0<=j)(h1:j < 26)(s:S):∃ u,ai (.str "abcdefghijklmnopqrstuvwxyz") (.int j) s=.ok (.str u) s/\Sm u 1/\u.length=1:=by
 obtain⟨i,rfl⟩:∃ i:Nat,j=i:=⟨j.toNat,by omega⟩
 have hi:i < ("abcdefghijklmnopqrstuvwxyz":Str).cps.toList.length:=by
  have:("abcdefghijklmnopqrstuvwxyz":Str).cps.toList.length=26:=xa
  omega
 refine⟨⟨#[("abcdefghijklmnopqrstuvwxyz":Str).cps.toList[i]]⟩,?_,⟨λ c hc=>?_,Nat.le_refl _⟩,rfl⟩
 ·show(if ("abcdefghijklmnopqrstuvwxyz":Str).length<=sizeLine then need (gS ("abcdefghijklmnopqrstuvwxyz":Str).cps.toList i) λ c=>R.ok (AV.str ⟨#[c]⟩) s else .bad)=_
  rw[if_pos (xb.small (by decide)),e7 (List.getElem?_eq_getElem hi)];rfl
 ·simp at hc
  subst hc
  exact Ha _ (by simp)
theorem Cy {ss:List Str}(h:∀ t∈ss,Sm t 1/\t.length=1):Sm (Txt.join "" ss) ss.length/\(Txt.join "" ss).length=ss.length:=by
 have hl:(Txt.join "" ss).length=ss.length:=by
  show(PySem.Builtin.Str.glued "" ss).length=_
  rw[size_glued]
  have e:("":Str).length=0:=by decide +kernel
  rw[e,Nat.mul_zero,Nat.add_zero]
  induction ss with
  | nil=>rfl
  | cons a r ih=>simp only[List.map_cons,List.sum_cons,(h a (.head _)).2,ih λ t ht=>h t (.tail _ ht),List.length_cons];omega
 refine⟨⟨λ c hc=>?_,Nat.le_of_eq hl⟩,hl⟩
 have hc:c∈(PySem.Builtin.Str.glued "" ss).cps.toList:=hc
 rw[StrLaws.glued_eq_join]at hc
 rcases(PyProof.Rows.mem_join "" c ss).mp hc with⟨t,ht,hc⟩|⟨_,hc⟩
 ·exact(h t ht).1.1 c hc
 ·rw[show("":Str).cps.toList=[] by decide +kernel]at hc
  cases hc
theorem zV {ss:List Str}(h:∀ t∈ss,Sm t 1/\t.length=1)(hl:ss.length<=20):PySem.Builtin.Str.tooLong (ss.toArray.foldl (·+·.length+("":Str).length) 0)=false:=by
 have e:("":Str).length=0:=by decide +kernel
 rw[e]
 have:∀ (l:List Str) (m:Nat),(∀ t∈l,Sm t 1/\t.length=1)->l.foldl (λ n t=>n+t.length+0) m=m+l.length:=by
  intro l
  induction l with
  | nil=>intro m _;rfl
  | cons a r ih=>intro m h;simp only[List.foldl_cons,List.length_cons];rw[ih _ λ t ht=>h t (.tail _ ht),(h a (.head _)).2];omega
 rw[show ss.toArray.foldl (λ n (t:Str)=>n+t.length+0) 0=ss.foldl (λ n (t:Str)=>n+t.length+0) 0 by simp,this ss 0 h]
 show decide (0+ss.length > sizeLine)=false
 rw[decide_eq_false]
 have:sizeLine=2 ^ 24:=rfl
 omega
theorem A7 {c d n:Nat}{s:S}(D:Dr c d n s)(hn:n<=900001000){x1 x3 x4 x5:Option AV} :
  (CK (nV "str" lI (mc (.str "")) (aa (aF (aK [("_law_turn",none),("_law_letters",some 2),("_law_state",some 0)] (nA (aa (af av (mc (.int 1)) (aj 2 ar (aa (mv 0) (aa (mc (.int 7)) ah)))) ah)) (gN 0) bE (af ai (mv 1) (aj 2 ar (aa (mv 2) (aa (mc (.int 26)) ah)))))) ah)) [some (.ref d),x1,some (.str "abcdefghijklmnopqrstuvwxyz"),x3,x4,x5] s).wp λ v s'=>∃ t,v=.str t/\Sm t 7/\1<=t.length/\Dr c d (n+8) s'/\Kp c d s s':=by
 simp only[↓WS,↓WE,↓WV,Lq,bR,UU,Nat.reduceSub,↓reduceIte,↓ki,show ∀ s:S,(Mm.cw "str" (.str "") s).isSome=true from λ _=>rfl]
 refine(bp D (by omega) (by omega) (g_ (by omega) (by omega))).mono ?_
 rintro _ s1 ⟨r,rfl,r0,r1,D1,K1⟩
 try walk_at "w"
 refine⟨⟨by omega,by omega⟩,Bj (by simp[gI];omega),?_⟩
 refine lb (λ xs acc env st=>∃ (ss:List Str) (x:Option AV),acc=ss.map AV.str/\xs.length+ss.length=(1+r).toNat/\(∀ t∈ss,Sm t 1/\t.length=1)/\env=[x,some (.str "abcdefghijklmnopqrstuvwxyz"),some (.ref d)]/\Dr c d (n+1+ss.length) st/\Kp c d s st) ?_ ?_ ?_ _ _ _ _ ⟨[],none,rfl,by simp[gI],(λ _ h=>nomatch h),rfl,D1,K1⟩
 ·exact λ _ _ _ st _=>bu st
 ·rintro acc env st ⟨ss,x,rfl,hl,hs,rfl,D2,K2⟩
  have hl:0+ss.length=(1+r).toNat:=hl
  have l1:aq (st++[.lst (ss.map AV.str)]) st.length=some (ss.map AV.str):=aE _ _
  have ej:lI (.str "") [.ref st.length] (st++[.lst (ss.map AV.str)])=.ok (.str (Txt.join "" ss)) (st++[.lst (ss.map AV.str)]):=by
   show(need (aq _ st.length) λ xs=>need (qy xs) λ qs=>if PySem.Builtin.Str.tooLong (qs.toArray.foldl (·+·.length+("":Str).length) 0)=false then R.ok (AV.str (Txt.join "" qs)) (st++[.lst (ss.map AV.str)]) else .bad)=_
   rw[l1,aG,nj,aG,if_pos (zV hs (by omega))]
  try walk_at "w"
  rw[dJ ej]
  obtain⟨h1,h2⟩:=Cy hs
  have D3:=D2.app (e:=[.lst (ss.map AV.str)]) (D2.cl.add (by simp[AO.low,kM]))
  obtain⟨D4,K4,al⟩:=(K2.gk.trans (Gk.app c d st _)).cut D D3
  exact⟨⟨al,by simp[AV.low]⟩,_,rfl,⟨h1.1,by omega⟩,by omega,D4.mono (by omega),K4⟩
 ·rintro v r' acc env st ⟨ss,x,rfl,hl,hs,rfl,D2,K2⟩
  have hl:r'.length+1+ss.length=(1+r).toNat:=hl
  try walk_at "w"
  refine(bp D2 (by omega) (by omega) (g_ (by omega) (by omega))).mono ?_
  rintro _ s2 ⟨j,rfl,j0,j1,D3,K3⟩
  obtain⟨u,eu,hu,lu⟩:=pT j0 j1 s2
  rw[dJ eu]
  refine⟨ss++[u],_,by simp,by simp;omega,λ t ht=>?_,rfl,D3.mono (by simp;omega),K2.trans K3⟩
  rcases List.mem_append.mp ht with h|h
  ·exact hs t h
  ·rw[List.mem_singleton.mp h];exact⟨hu,lu⟩
def kN (t:Str):Key × AV:=(.inr t,.bl true)
theorem DX (ks:List Str)(t:Str):(hR (ks.map kN) (.inr t)).isSome=decide (t∈ks):=by
 induction ks with
 | nil=>rfl
 | cons a r ih=>
  show(if (Sum.inr a:Key)=Sum.inr t then some (AV.bl true) else hR (r.map kN) (.inr t)).isSome=_
  by_cases h:a=t
  ·rw[if_pos (by rw[h])];simp[h]
  ·rw[if_neg (λ z=>h (Sum.inr.inj z)),ih]
   simp
   intro e
   exact absurd e.symm h
theorem EC (ks:List Str)(t:Str):kH (ks.map kN) (.inr t) (.bl true)=(if t∈ks then ks else ks++[t]).map kN:=by
 unfold kH
 have e:((ks.map kN).any λ kv=>decide (kv.1=(Sum.inr t:Key)))=decide (t∈ks):=by
  rw[List.any_map]
  induction ks with
  | nil=>rfl
  | cons a r ih=>
   simp only[List.any_cons,ih,Function.comp]
   by_cases h:a=t
   ·subst h;simp[kN]
   ·have:¬ ((kN a).1=(Sum.inr t:Key)):=λ z=>h (Sum.inr.inj z)
    rw[decide_eq_false this]
    simp
    intro e
    exact absurd e.symm h
 rw[e]
 by_cases h:t∈ks
 ·rw[if_pos (by simpa using h),if_pos h,List.map_map]
  refine List.map_congr_left λ a _=>?_
  simp only[Function.comp]
  split<;>rfl
 ·rw[if_neg (by simpa using h),if_neg h]
  simp[kN]
theorem wm:∀ ks:List Str,gx (ks.map kN)=some ks
 | []=>rfl
 | a :: r=>by show(gx (r.map kN)).map (a :: ·)=_;rw[wm r];rfl
theorem zL (b:Nat):∀ ks:List Str,bx b ((ks.map kN).map (·.2))=true
 | []=>by simp[bx]
 | a :: r=>by simp only[List.map_cons,bx,zL b r];simp[kN,AV.low]
theorem yR (lo:Int)(n:Nat):gI lo (n+1)=.int lo :: gI (lo+1) n:=by
 unfold gI
 rw[List.range_succ_eq_map,List.map_cons,List.map_map]
 congr 1
 ·simp
 ·refine List.map_congr_left λ i _=>?_
  simp only[Function.comp,AV.int.injEq];omega
theorem uT {c d n:Nat}{s:S}(D:Dr c d n s)(hn:n<=900000000){m:Int}(m0:0<=m)(m1:m<=5):(cE [.ref d,.int m] s).wp λ v s'=>∃ (j:Nat) (ps:List Str),v=.ref j/\s.length<=j/\aq s' j=some (ps.map AV.str)/\ps.length<=5/\dn ps=true/\(∀ p∈ps,isNm (.str p)=true/\iN p 8)/\Dr c d (n+60) s'/\Gk c d s s':=by
 have lc:=D.v8
 have ld:=D.v7
 unfold cE gm
 refine Au ?_
 refine aB λ K hK=>?_
 try walk_at "w"
 rw[hK]
 clear hK K
 refine aB λ K hK=>?_
 try walk_at "w"
 rw[hK]
 clear hK K
 have D1:=D.app (e:=[.dK []]) (D.cl.add (by simp[AO.low,bx]))
 have G1:=Gk.app c d s [.dK []]
 have k1:(s++[AO.dK []])[s.length]? = some (.dK (([]:List Str).map kN)):=by simp
 revert D1 G1 k1
 generalize s++[AO.dK []]=s1
 intro D1 G1 k1
 refine aB λ K hK=>?_
 rw[WS.2.2.2.2.2.2.2.2.1,ki]
 try walk_at "w"
 refine⟨⟨by omega,by omega⟩,?_⟩
 refine jY (λ l env st=>∃ (x4 x5:Option AV) (z:Nat) (ks:List Str),l=gI z (m.toNat - z)/\z<=5/\l.length+z=m.toNat/\env=[some (.ref d),some (.int m),some (.str "abcdefghijklmnopqrstuvwxyz"),some (.ref s.length),x4,x5]/\st[s.length]? = some (.dK (ks.map kN))/\ks.Nodup/\ks.length<=z/\(∀ p∈ks,isNm (.str p)=true/\iN p 8)/\Dr c d (n+10 * z) st/\Gk c d s st) ?_ ?_ ?_ _ _ _ ⟨none,none,0,[],by simp,by omega,by simp[gI],rfl,k1,List.nodup_nil,Nat.le_refl _,(λ _ h=>nomatch h),D1,G1⟩
 ·exact λ _ _ st _=>bu st
 case refine_3=>
  rintro v r env st ⟨x4,x5,z,ks,el,hz,hl,rfl,L_,nd,lk,nk,Dz,Gz⟩
  have hl:r.length+1+z=m.toNat:=hl
  have hv:v=.int z/\r=gI (z+1) (m.toNat - (z+1)):=by
   rw[show m.toNat - z=(m.toNat - (z+1))+1 by omega]at el
   rw[yR]at el
   cases el;exact⟨rfl,rfl⟩
  obtain⟨rfl,hr⟩:=hv
  rw[WS.2.2.2.2.2.2.2.2.2.2.1]
  refine aB λ K hK=>?_
  rw[WS.2.1]
  refine(A7 Dz (by omega)).mono ?_
  rintro _ s2 ⟨t,rfl,ht,P_,D2,K2⟩
  rw[hK]
  clear hK K
  have k2:s2[s.length]? = some (.dK (ks.map kN)):=by rw[K2.get _ (by omega) (by omega)];exact L_
  have d2:oG s2 s.length=some (ks.map kN):=by unfold oG;rw[k2]
  let E:En:=[some (.ref d),some (.int m),some (.str "abcdefghijklmnopqrstuvwxyz"),some (.ref s.length),some (.int z),some (.str t)]
  have ec:cB (af nM (mv 5) (mv 3)) E s2=.ok (!decide (t∈ks)) s2:=by
   refine jh (ax rfl rfl ?_)
   show(need (oG s2 s.length) λ kvs=>need (ip (.str t)) λ k=>R.ok (AV.bl (!(hR kvs k).isSome)) s2)=_
   rw[d2,aG,show ip (.str t)=some (.inr t) from rfl,aG,DX]
  obtain⟨u,eu,hu,Ac⟩:∃ u,yl (cB (af nM (mv 5) (mv 3))) (mv 5) (af av (mv 5) (af ai (mv 2) (mv 4))) E s2=.ok (.str u) s2/\Sm u 8/\1<=u.length:=by
   unfold yl
   rw[ec,ao]
   by_cases h:t∈ks
   ·rw[decide_eq_true h,if_neg (by simp)]
    obtain⟨q,eq,hq,lq⟩:=pT (j:=z) (by omega) (by omega) s2
    refine⟨t++q,ax rfl (ax rfl rfl eq) (add_str (by have:=ht.2;omega)),⟨λ c hc=>?_,by rw[wb];have:=ht.2;omega⟩,by rw[wb];omega⟩
    have e:(t++q).cps=t.cps++q.cps:=rfl
    rw[e,Array.toList_append]at hc
    exact(List.mem_append.mp hc).elim (ht.1 c) (hq.1 c)
   ·rw[decide_eq_false h,if_pos (by simp)]
    exact⟨t,rfl,⟨ht.1,by have:=ht.2;omega⟩,P_⟩
  show(nF _ _ _ E s2).wp _ _
  rw[WS.2.2.2.2.2.2.2.2.2.1]
  rw[WE.1,show(∀ Q:AV->S->Prop,(mv 3 E s2).wp Q=Q (.ref s.length) s2) from λ Q=>rfl,dJ eu]
  have ep:putD (.bl true) (.ref s.length) (.str u) E s2=.nx E (s2.set s.length (.dK ((if u∈ks then ks else ks++[u]).map kN))):=by
   show(match oG s2 s.length,ip (.str u) with
    | some kvs,some k=>if kvs.length < sizeLine then RS.nx E (s2.set s.length (.dK (kH kvs k (.bl true)))) else .bad
    | _,_=>.bad)=_
   rw[d2]
   show(if (ks.map kN).length < sizeLine then RS.nx E (s2.set s.length (.dK (kH (ks.map kN) (.inr u) (.bl true)))) else .bad)=_
   rw[if_pos (a4 (by rw[List.length_map];omega)),EC]
  rw[yv ep]
  have qX:s.length < s2.length:=(List.getElem?_eq_some_iff.mp k2).1
  refine⟨_,_,z+1,(if u∈ks then ks else ks++[u]),hr,by omega,by omega,rfl,List.getElem?_set_self qX,?_,?_,?_,?_,?_⟩
  ·split
   ·exact nd
   ·rename_i h
    exact List.nodup_append.mpr ⟨nd,by simp,λ a ha b hb=>by rw[List.mem_singleton.mp hb];rintro rfl;exact h ha⟩
  ·split
   ·omega
   ·simp;omega
  ·intro p hp
   split at hp
   ·exact nk p hp
   ·rcases List.mem_append.mp hp with h|h
    ·exact nk p h
    ·rw[List.mem_singleton.mp h];exact hu.nm Ac
  ·exact(D2.mono (by omega)).set (by omega) (by omega) (zL _ _)
  ·exact(Gz.trans K2.gk).set (Nat.le_refl _)
 rintro env st ⟨x4,x5,z,ks,_,hz,_,rfl,L_,nd,lk,nk,Dz,Gz⟩
 rw[hK]
 clear hK K
 have d2:oG st s.length=some (ks.map kN):=by unfold oG;rw[L_]
 have es:rj (mv 3) [some (.ref d),some (.int m),some (.str "abcdefghijklmnopqrstuvwxyz"),some (.ref s.length),x4,x5] st=.ok ((df ks).map .str) st:=by
  show(need (oG st s.length) λ kvs=>need (gx kvs) λ ks=>if ks.length < 64 then R.ok ((df ks).map AV.str) st else .bad)=_
  rw[d2,aG,wm,aG,if_pos (by omega)]
 rw[WS.2.2.1,dJ (cJ es)]
 refine⟨st.length,df ks,rfl,Gz.len,aE _ _,by rw[(eL ks).length_eq];omega,uJ nd,λ p hp=>nk p (yK hp),?_,Gz.trans (Gk.app c d st _)⟩
 exact(Dz.app (D2 Dz.cl)).mono (by omega)
where
 D2 {st:S}{zs:List Str}(h:Cl st):Cl (st++[.lst (zs.map AV.str)]):=h.add (by simp[AO.low,kM])
def zP (P:AV->Prop)(z:S):Prop:=∀ o∈z,∃ l,o=.lst l/\∀ x∈l,P x
theorem zP.nil (P:AV->Prop):zP P []:=λ _ h=>nomatch h
theorem zP.app {P:AV->Prop}{y z:S}(h:zP P y)(k:zP P z):zP P (y++z):=λ o ho=>(List.mem_append.mp ho).elim (h o) (k o)
theorem zP.one {P:AV->Prop}{l:List AV}(h:∀ x∈l,P x):zP P [.lst l]:=λ o ho=>⟨l,List.mem_singleton.mp ho,h⟩
def Le (P:AV->Prop)(N:Nat)(m:Ev)(env:En)(st:S):Prop:=∀ e:S,zP P e->∃ a z ws,m env (st++e)=.ok (.ref a) (st++e++z)/\aq (st++e++z) a=some ws/\ws.length<=N/\(∀ x∈ws,P x)/\zP P z
section
variable {P:AV->Prop}{N M:Nat}{m m2:Ev}{env:En}{st:S}
theorem nY {i:Nat}{ws:List AV}(h:∀ s:S,m env s=.ok (.ref i) s) (l:aq st i=some ws)(hl:ws.length<=N)(hp:∀ x∈ws,P x):Le P N m env st:=λ e he=>
 ⟨i,[],ws,by rw[List.append_nil];exact h _,by rw[List.append_nil];exact aL l,hl,hp,zP.nil P⟩
theorem wR {α:Type}{xs:List α}{lo hi:Option Int}{x:α}(h:x∈de xs lo hi):x∈xs:=by unfold de at h;exact List.mem_of_mem_drop (List.mem_of_mem_take h)
theorem CY {α:Type}(xs:List α)(lo hi:Option Int):(de xs lo hi).length<=xs.length:=by
 unfold de;simp only[List.length_take,List.length_drop];omega
theorem i4 {lo hi:Eo}{a b:Option Int}(h:Le P N m env st)(ha:∀ s:S,lo env s=.ok a s)(hb:∀ s:S,hi env s=.ok b s):Le P N (gW m lo hi) env st:=λ e he=>by
 obtain⟨i,z,ws,h1,h2,h3,h4,h5⟩:=h e he
 have hc:∀ x∈de ws a b,P x:=λ x hx=>h4 x (wR hx)
 refine⟨(st++e++z).length,z++[.lst (de ws a b)],de ws a b,?_,?_,Nat.le_trans (CY _ _ _) h3,hc,h5.app (zP.one hc)⟩
 ·unfold gW
  rw[h1,ao,ha,ao,hb,ao,<-List.append_assoc]
  show(need (aq (st++e++z) i) λ xs=>R.ok (AV.ref (st++e++z).length) (st++e++z++[.lst (de xs a b)]))=_
  rw[h2];rfl
 ·rw[<-List.append_assoc];exact aE _ _
theorem gL (hN:N+M<=1000)(h:Le P N m env st)(k:Le P M m2 env st):Le P (N+M) (af av m m2) env st:=λ e he=>by
 obtain⟨i,z,ws,h1,h2,h3,h4,h5⟩:=h e he
 obtain⟨j,y,us,k1,k2,k3,k4,k5⟩:=k (e++z) (he.app h5)
 rw[<-List.append_assoc]at k1 k2
 have hc:∀ x∈ws++us,P x:=λ x hx=>(List.mem_append.mp hx).elim (h4 x) (k4 x)
 refine⟨(st++e++z++y).length,z++y++[.lst (ws++us)],ws++us,?_,?_,by rw[List.length_append];omega,hc,(h5.app k5).app (zP.one hc)⟩
 ·unfold af
  rw[h1,ao,k1,ao,w_ (aL h2) k2 (by omega)]
  simp only[List.append_assoc]
 ·simp only[<-List.append_assoc];exact aE _ _
theorem zO (h:Le P N m env st)(k:∀ s:S,m2 env s=.ok (.int (-1)) s):Le P N (iY m m2) env st:=λ e he=>by
 obtain⟨i,z,ws,h1,h2,h3,h4,h5⟩:=h e he
 have hc:∀ x∈ws.reverse,P x:=λ x hx=>h4 x (List.mem_reverse.mp hx)
 refine⟨(st++e++z).length,z++[.lst ws.reverse],ws.reverse,?_,?_,by rw[List.length_reverse];exact h3,hc,h5.app (zP.one hc)⟩
 ·unfold iY
  rw[h1,ao,k,ao,<-List.append_assoc]
  show(need (aq (st++e++z) i) λ xs=>R.ok (AV.ref (st++e++z).length) (st++e++z++[.lst xs.reverse]))=_
  rw[h2];rfl
 ·rw[<-List.append_assoc];exact aE _ _
theorem zQ {x:AV}(h:∀ e:S,zP P e->m env (st++e)=.ok x (st++e)) (hp:P x):Le P 1 (aF (bz (aa m ah))) env st:=λ e he=>by
 have hc:∀ y∈[x],P y:=λ y hy=>by rw[List.mem_singleton.mp hy];exact hp
 exact⟨(st++e).length,[.lst [x]],[x],cJ (dy (aH (h e he) rfl) (by simp)),aE _ _,Nat.le_refl _,hc,zP.one hc⟩
theorem vL {α:Type}{xs:List α}{x:α}:∀ {n:Nat},x∈(List.replicate n xs).flatten->x∈xs
 | 0,h=>by simp at h
 | n+1,h=>by
  rw[List.replicate_succ,List.flatten_cons]at h
  exact(List.mem_append.mp h).elim id vL
theorem le_mul {k:Int}(h:Le P N m env st)(hk:∀ s:S,m2 env s=.ok (.int k) s) (k0:0<=k)(k2:k<=2)(hN:N<=500):Le P (2 * N) (af lH m m2) env st:=λ e he=>by
 obtain⟨i,z,ws,h1,h2,h3,h4,h5⟩:=h e he
 have hc:∀ x∈(List.replicate k.toNat ws).flatten,P x:=λ x hx=>h4 x (vL hx)
 refine⟨(st++e++z).length,z++[.lst (List.replicate k.toNat ws).flatten],(List.replicate k.toNat ws).flatten,?_,?_,?_,hc,h5.app (zP.one hc)⟩
 ·unfold af
  rw[h1,ao,hk,ao,<-List.append_assoc]
  show(need (aq (st++e++z) i) λ xs=>if (-1000<=k/\k<=1000)/\xs.length<=1000 then R.ok (AV.ref (st++e++z).length) (st++e++z++[.lst (List.replicate k.toNat xs).flatten]) else .bad)=_
  rw[h2,aG,if_pos ⟨⟨by omega,by omega⟩,by omega⟩]
 ·rw[<-List.append_assoc];exact aE _ _
 ·rw[len_rep]
  exact Nat.le_trans (Nat.mul_le_mul (show k.toNat<=2 by omega) h3) (Nat.le_refl _)
theorem Le.go (h:Le P N m env st):∃ a z ws,m env st=.ok (.ref a) (st++z)/\aq (st++z) a=some ws/\ws.length<=N/\(∀ x∈ws,P x)/\zP P z:=by
 have:=h [] (zP.nil P)
 rw[List.append_nil]at this
 exact this
end
theorem DU {n:Nat}{z:S}(h:zP (fd n) z) (b:Nat):z.all (AO.low b)=true:=by
 rw[List.all_eq_true]
 intro o ho
 obtain⟨l,rfl,hl⟩:=h o ho
 exact kO λ x hx=>(lY (hl x hx) b).1
theorem Dr.iL {c d n k:Nat}{s z:S}(D:Dr c d n s)(h:zP (fd k) z):Dr c d n (s++z):=D.app (D.cl.add (DU h _))
structure R9 (x:AV):Prop where
 ex:∃ p,Rk p x/\iN p 8
theorem k8 {q:Rat}{n:Nat}(h:Sz n q)(hn:n<=900):fd 1 (fq q):=.inr ⟨_,rfl,by simp,λ x hx=>by
 simp only[List.mem_cons,List.not_mem_nil,or_false]at hx
 rcases hx with rfl|rfl
 ·exact h.a.mono hn
 ·exact h.b.mono hn⟩
theorem R9.parts {x:AV}(h:R9 x):∃ es,x=.tup es/\es.length=9/\(∀ e∈es,fd 1 e)/\(∃ p,es[0]? = some (.str p)/\iN p 8)/\∀ j,1<=j->j < 9->(∃ q,es[j]? = some (fq q)/\Sz 700 q)∨∃ i,es[j]? = some (.int i)/\bw 400 i:=by
 obtain⟨p,⟨e,f,w,d,r,k,g,a,rfl,hq,hi⟩,hp⟩:=h.ex
 have q:∀ {y:Rat},y∈[e,f,r,k]->Sz 700 y:=λ h=>hq _ h
 have i:∀ {y:Int},y∈[w,d,g,a]->bw 400 y:=λ h=>(hi _ h).2
 refine⟨_,rfl,rfl,λ x hx=>?_,⟨p,rfl,hp⟩,λ j j1 j9=>?_⟩
 ·simp only[List.mem_cons,List.not_mem_nil,or_false]at hx
  rcases hx with rfl|rfl|rfl|rfl|rfl|rfl|rfl|rfl|rfl
  ·exact .inl (hp.mono (by decide))
  ·exact k8 (q (by simp)) (by decide)
  ·exact k8 (q (by simp)) (by decide)
  ·exact .inl ((i (by simp)).mono (by decide))
  ·exact .inl ((i (by simp)).mono (by decide))
  ·exact k8 (q (by simp)) (by decide)
  ·exact k8 (q (by simp)) (by decide)
  ·exact .inl ((i (by simp)).mono (by decide))
  ·exact .inl ((i (by simp)).mono (by decide))
 ·match j,j1,j9 with
  | 1,_,_=>exact .inl ⟨e,rfl,q (by simp)⟩
  | 2,_,_=>exact .inl ⟨f,rfl,q (by simp)⟩
  | 3,_,_=>exact .inr ⟨w,rfl,i (by simp)⟩
  | 4,_,_=>exact .inr ⟨d,rfl,i (by simp)⟩
  | 5,_,_=>exact .inl ⟨r,rfl,q (by simp)⟩
  | 6,_,_=>exact .inl ⟨k,rfl,q (by simp)⟩
  | 7,_,_=>exact .inr ⟨g,rfl,i (by simp)⟩
  | 8,_,_=>exact .inr ⟨a,rfl,i (by simp)⟩
theorem R9.fd {x:AV}(h:R9 x):fd 2 x:=by
 obtain⟨es,rfl,h9,hf,_⟩:=h.parts
 exact .inr ⟨es,rfl,by omega,hf⟩
theorem vw (i j k:Nat)(a b c:Ev)(env:En)(s:S)(N:En->S->Prop)(T:AV->S->Prop):(pI i j k (aa a (aa b (aa c ah))) env s).wp N T=(a env s).wp λ v s1=>(b env s1).wp λ w s2=>(c env s2).wp λ z s3=>N (((env.set i (some v)).set j (some w)).set k (some z)) s3:=by
 unfold pI aa ah
 cases a env s with
 | ok v s1=>
  simp only[dz,sd]
  cases b env s1 with
  | ok w s2=>
   simp only[dz,sd]
   cases c env s2<;>rfl
  | ex c s1=>rfl
  | bad=>rfl
 | ex c s1=>rfl
 | bad=>rfl
theorem AH {α:Type}(xs:List α){a b:Int}(h0:0<=a)(h1:0<=b):(de xs (some a) (some b)).length<=(b - a).toNat:=by
 obtain⟨a,rfl⟩:∃ m:Nat,a=m:=⟨a.toNat,by omega⟩
 obtain⟨b,rfl⟩:∃ m:Nat,b=m:=⟨b.toNat,by omega⟩
 unfold de
 rw[HT.vJ,HT.vJ,List.length_take,List.length_drop]
 omega
theorem zN {P:AV->Prop}{N:Nat}{m:Ev}{env:En}{st:S}{lo hi:Eo}{a b:Int}(h:Le P N m env st)(ha:∀ s:S,lo env s=.ok (some a) s) (hb:∀ s:S,hi env s=.ok (some b) s) (h0:0<=a)(h1:0<=b):Le P (b - a).toNat (gW m lo hi) env st:=λ e he=>by
 obtain⟨i,z,ws,JL,h2,h3,h4,h5⟩:=h e he
 have hc:∀ x∈de ws (some a) (some b),P x:=λ x hx=>h4 x (wR hx)
 refine⟨(st++e++z).length,z++[.lst (de ws (some a) (some b))],de ws (some a) (some b),?_,?_,AH ws h0 h1,hc,h5.app (zP.one hc)⟩
 ·unfold gW
  rw[JL,ao,ha,ao,hb,ao,<-List.append_assoc]
  show(need (aq (st++e++z) i) λ xs=>R.ok (AV.ref (st++e++z).length) (st++e++z++[.lst (de xs (some a) (some b))]))=_
  rw[h2];rfl
 ·rw[<-List.append_assoc];exact aE _ _
abbrev uq (d i:Nat)(at_ place way:Int)(r:Nat)(more:Int)(x7 x8 x9 rS:Option AV):En:=[some (.ref d),some (.ref i),some (.int at_),some (.int place),some (.int way),some (.ref r),some (.int more),x7,x8,x9,rS]
theorem JU {i:Int}{n:Nat}(h:bw n i)(hn:n<=900):fd 1 (.int i):=.inl (h.mono hn)
theorem vg {i j:Int}(h:bw 900 i)(k:bw 900 j):fd 1 (.tup [.int i,.int j]):=.inr ⟨_,rfl,by simp,λ x hx=>by
 simp only[List.mem_cons,List.not_mem_nil,or_false]at hx
 rcases hx with rfl|rfl
 ·exact h
 ·exact k⟩
theorem m_ {α:Type}{xs:List α}{j:Nat}{x:α}(h:xs[j]? = some x):gS xs (j:Int)=some x:=e7 h
theorem jW {s:S}{i j:Nat}{xs:List AV}{x:AV}(h:aq s i=some xs)(e:xs[j]? = some x):ai (.ref i) (.int j) s=.ok x s:=by
 show(need (aq s i) λ xs=>need (gS xs j) λ v=>R.ok v s)=_
 rw[h,aG,e7 e];rfl
theorem mn {c d n i:Nat}{s:S}(D:Dr c d n s)(hn:n<=900000000){zs:List AV}(l:aq s i=some zs)(ic:i≠c/\i≠d)(z1:1<=zs.length)(z5:zs.length<=5)(hz:∀ x∈zs,R9 x) :
  (a_ [.ref d,.ref i] s).wp λ v s'=>∃ a ws,v=.ref a/\aq s' a=some ws/\ws.length<=12/\(∀ x∈ws,fd 2 x)/\Dr c d (n+10) s'/\Gk c d s s':=by
 have lc:=D.v8
 have ld:=D.v7
 have li:i < s.length:=(List.getElem?_eq_some_iff.mp (ay l)).1
 unfold a_ fI
 refine Au ?_
 refine aB λ K hK=>?_
 rw[vw]
 try simp only[↓WS,↓WE,↓WV,Lq,bR,UU,Nat.reduceSub,↓reduceIte,↓dJ (uW l)]
 refine(bp D (by omega) (by omega) (g_ (by omega) (by omega))).mono ?_
 rintro _ s1 ⟨at_,rfl,a0,a1,D1,K1⟩
 try walk_at "w"
 refine(bp D1 (by omega) (by omega) (g_ (by omega) (by omega))).mono ?_
 rintro _ s2 ⟨pl,rfl,p0,p1,D2,K2⟩
 try walk_at "w"
 refine(bp D2 (by omega) (by omega) (g_ (by omega) (by omega))).mono ?_
 rintro _ s3 ⟨way,rfl,w0,w1,D3,K3⟩
 try walk_at "w"
 rw[hK]
 clear hK K
 have K13:=(K1.trans K2).trans K3
 have l3:=K13.gk.lst (n:=0) ic.1 ic.2 l
 clear D1 D2 K1 K2 K3
 obtain⟨at',rfl⟩:∃ m:Nat,at_=m:=⟨at_.toNat,by omega⟩
 have DC:at' < zs.length:=by omega
 have P6:=hz _ (List.getElem_mem DC)
 obtain⟨es,ex,h9,Gu,_,i'⟩:=P6.parts
 refine aB λ K hK=>?_
 rw[WS.2.2.2.2.2.2.1]
 have er:∀ env,mv 1 env s3=.ok (.ref i) s3->mv 2 env s3=.ok (.int at') s3->aF (dm d_ (eh (af ai (mv 1) (mv 2)))) env s3=.ok (.ref s3.length) (s3++[.lst es]):=λ env h1 h2=>by
  refine cJ ?_
  unfold dm eh
  rw[ax h1 h2 (jW l3 (by rw[List.getElem?_eq_getElem DC,ex])),ao]
  rfl
 rw[dJ (er _ rfl rfl)]
 have Pes:zP (fd 1) [.lst es]:=zP.one Gu
 have D4:=D3.iL Pes
 try walk_at "w"
 refine(bp D4 (by omega) (by omega) (g_ (by omega) (by omega))).mono ?_
 rintro _ s5 ⟨t,rfl,t0,t1,D5,K5⟩
 try walk_at "w"
 refine⟨⟨a5 (cA (n:=4) (by decide) (by decide)) (by decide),a5 (cA (n:=4) (by omega) (by omega)) (by decide)⟩,?_⟩
 rw[hK]
 clear hK K er
 have Og:=K13.len
 have G5:Gk c d s s5:=(K13.gk.trans (Gk.app c d s3 _)).trans K5.gk
 have l5:aq s5 i=some zs:=K5.gk.lst (n:=0) ic.1 ic.2 (aL l3)
 have r5:aq s5 s3.length=some es:=K5.gk.lst (n:=0) (by omega) (by omega) (aE s3 es)
 rw[Og]at r5
 clear K5 D4 D3 K13 l3
 show(au _ _ (uq d i at' (1+pl) way s3.length (1 - 2 * t) none none none none) s5).wp _ _
 rw[Og]
 obtain⟨more,hm⟩:∃ more:Int,1 - 2 * t=more:=⟨_,rfl⟩
 rw[hm]
 have CD:more=1∨more=-1:=by omega
 obtain⟨pj,Mu⟩:∃ pj:Nat,1+pl=pj:=⟨(1+pl).toNat,by omega⟩
 rw[Mu]
 have Pu:1<=pj:=by omega
 have Pt:pj < 9:=by omega
 have fm:bw 400 more:=CP (n:=400) (by rcases CD with rfl|rfl<;>decide) (by rcases CD with rfl|rfl<;>decide)
 have slt:s.length < s5.length:=(List.getElem?_eq_some_iff.mp (ay r5)).1
 have fin:∀ (st:S) (r m:Nat) (es':List AV) (x7 x8 x9 rS:Option AV),aq st r=some es'->es'.length<=24->(∀ e∈es',fd 1 e)->aq st i=some zs->Dr c d (n+4) st->Gk c d s st->
   (aU (af av (af av (gW (mv 1) oN (oS (mv 2))) (aF (bz (aa (dm gJ (eh (mv 5))) ah)))) (gW (mv 1) (oS (af av (mv 2) (mc (.int 1)))) oN)) (uq d i at' pj way r more x7 x8 x9 rS) st).wp (λ _ s1=>∃ a ws,AV.aY=.ref a/\aq s1 a=some ws/\ws.length<=12/\(∀ x∈ws,fd 2 x)/\Dr c d (n+10) s1/\Gk c d s s1) (λ v s'=>∃ a ws,v=.ref a/\aq s' a=some ws/\ws.length<=12/\(∀ x∈ws,fd 2 x)/\Dr c d (n+10) s'/\Gk c d s s'):=by
  intro st r m es' x7 x8 x9 rS hr QP hf Md Dst Gst
  have Hn:∀ x∈zs,fd 2 x:=λ x hx=>(hz x hx).fd
  have lz:Le (fd 2) 5 (mv 1) (uq d i at' pj way r more x7 x8 x9 rS) st:=nY (λ _=>rfl) Md z5 Hn
  have lo:Le (fd 2) 1 (aF (bz (aa (dm gJ (eh (mv 5))) ah))) (uq d i at' pj way r more x7 x8 x9 rS) st:=zQ (x:=.tup es') (λ e _=>by
   unfold dm eh
   rw[show mv 5 (uq d i at' pj way r more x7 x8 x9 rS) (st++e)=.ok (.ref r) (st++e) from rfl,ao]
   show(need (aq (st++e) r) λ xs=>R.ok xs (st++e)).bind gJ=_
   rw[aL hr];rfl) (.inr ⟨es',rfl,QP,hf⟩)
  obtain⟨a,z,ws,e1,e2,e3,e4,e5⟩:=(gL (by decide) (gL (by decide) (i4 (lo:=oN) (hi:=oS (mv 2)) lz (λ _=>rfl) (λ _=>rfl)) lo) (i4 (lo:=oS (af av (mv 2) (mc (.int 1)))) (hi:=oN) lz (λ _=>rfl) (λ _=>rfl))).go
  rw[WS.2.2.1,dJ e1]
  exact⟨a,ws,rfl,e2,by omega,e4,(Dst.iL e5).mono (by omega),Gst.trans (Gk.app c d st z)⟩
 have HW:∀ (st:S) (x7 x8 x9 rS:Option AV) (u:AV),aq st s.length=some es->aq st i=some zs->Dr c d (n+4) st->Gk c d s st->fd 1 u->∀ (K:En->S->Prop),(∀ e eK,K e eK=(aU (af av (af av (gW (mv 1) oN (oS (mv 2))) (aF (bz (aa (dm gJ (eh (mv 5))) ah)))) (gW (mv 1) (oS (af av (mv 2) (mc (.int 1)))) oN)) e eK).wp (λ _ s1=>∃ a ws,AV.aY=.ref a/\aq s1 a=some ws/\ws.length<=12/\(∀ x∈ws,fd 2 x)/\Dr c d (n+10) s1/\Gk c d s s1) (λ v s'=>∃ a ws,v=.ref a/\aq s' a=some ws/\ws.length<=12/\(∀ x∈ws,fd 2 x)/\Dr c d (n+10) s'/\Gk c d s s'))->
   ∀ T:AV->S->Prop,(dO (mv 5) (mv 3) u (uq d i at' pj way s.length more x7 x8 x9 rS) st).wp K T:=by
  intro st x7 x8 x9 rS u hr Md Dst Gst hu K hK T
  refine wF (f:=s.length) (j:=pj) (m:=pj) rfl rfl hr (by unfold qQ;rw[if_pos (by omega),if_pos (by omega)];rfl) ?_
  rw[hK]
  have Jp:∀ e∈es.set pj u,fd 1 e:=λ e he=>(List.mem_or_eq_of_mem_set he).elim (Gu e) (λ q=>q ▸ hu)
  refine fin _ s.length 0 (es.set pj u) _ _ _ _ (mZ hr) (by rw[List.length_set];omega) Jp ?_ ?_ (Gst.set (Nat.le_refl _))
  ·exact c7 (by rw[List.getElem?_set_ne (by omega)];exact ay Md)
  ·exact Dst.set (by omega) (by omega) (kO λ e he=>(lY (Jp e he) _).1)
 refine aB λ K hK=>?_
 rw[WS.2.2.2.1]
 rw[dJ (jh (ax (m:=mv 4) (m2:=mc (.int 4)) (env:=uq d i at' pj way s.length more none none none none) (s:=s5) rfl rfl (show bI (.int way) (.int 4) s5=.ok (.bl (decide (way=4))) s5 from rfl)))]
 by_cases h4:way=4
 ·rw[if_pos (by simp[h4])]
  have lr:∀ (st:S) (x7 x8 x9 rS:Option AV),aq st s.length=some es->Le (fd 1) 9 (mv 5) (uq d i at' pj way s.length more x7 x8 x9 rS) st:=λ st x7 x8 x9 rS h=>nY (λ _=>rfl) h (by omega) Gu
  refine aB λ K2 wD=>?_
  obtain⟨a,z,ws,e1,e2,e3,e4,e5⟩:=(le_mul (m2:=af fh (mc (.int 1)) (mv 6)) (k:=1 - more) (zN (lo:=oS (mv 3)) (hi:=oS (af av (mv 3) (mc (.int 1)))) (a:=pj) (b:=pj+1) (lr s5 none none none none r5) (λ _=>rfl) (λ _=>rfl) (by omega) (by omega)) (λ _=>rfl) (by omega) (by omega) (by omega)).go
  have e3:ws.length<=2:=by omega
  refine Eq.mpr (gG e1 _ _) ?_
  rw[wD]
  clear wD K2
  have D6:=D5.iL e5
  have G6:=G5.trans (Gk.app c d s5 z)
  have r6:aq (s5++z) s.length=some es:=aL r5
  have l6:aq (s5++z) i=some zs:=aL l5
  obtain⟨a2,z2,KS,g1,g2,g3,g4,g5⟩:=(gL (by decide) (gL (by decide) (i4 (lo:=oN) (hi:=oS (mv 3)) (lr (s5++z) (some (.ref a)) none none none r6) (λ _=>rfl) (λ _=>rfl)) (nY (m:=mv 7) (i:=a) (λ _=>rfl) e2 e3 e4)) (i4 (lo:=oS (af av (mv 3) (mc (.int 1)))) (hi:=oN) (lr (s5++z) (some (.ref a)) none none none r6) (λ _=>rfl) (λ _=>rfl))).go
  show(aO 5 _ (uq d i at' pj way s.length more (some (.ref a)) none none none) (s5++z)).wp _ _
  refine Eq.mpr (gG g1 _ _) ?_
  rw[hK]
  exact fin (s5++z++z2) a2 0 KS (some (.ref a)) none none none g2 (by omega) g4 (aL l6) ((D6.iL g5).mono (by omega)) (G6.trans (Gk.app c d _ z2))
 ·rw[if_neg (by simp[h4])]
  have w4:way < 4:=by omega
  obtain⟨wn,rfl⟩:∃ wn:Nat,way=wn:=⟨way.toNat,by omega⟩
  let E:=uq d i at' pj wn s.length more none none none none
  have eP:∀ (st:S) (x7 x8 x9 rS:Option AV) (x:AV),aq st s.length=some es->es[pj]? = some x->af ai (mv 5) (mv 3) (uq d i at' pj wn s.length more x7 x8 x9 rS) st=.ok x st:=λ st x7 x8 x9 rS x h e=>ax rfl rfl (jW h e)
  rw[WS.2.2.2.1]
  rcases i' pj Pu Pt with⟨q,eq,hq⟩|⟨j,ej,hj⟩
  ·-- a JP
   rw[dJ (bX (gB (n:="tuple") (b:=true) (m:=af ai (mv 5) (mv 3)) (env:=E) ⟨_,rfl⟩ (eP s5 none none none none _ r5 eq) (by unfold cw;rfl))),if_pos rfl]
   refine aB λ K2 wD=>?_
   rw[WS.2.2.2.2.2.1,dJ (eP s5 none none none none _ r5 eq)]
   show K2 (uq d i at' pj wn s.length more none none (some (.int q.num)) (some (.int q.den))) s5
   rw[wD]
   clear wD K2
   let E2:=uq d i at' pj wn s.length more none none (some (.int q.num)) (some (.int q.den))
   show(au _ _ E2 s5).wp _ _
   refine aB λ K2 wD=>?_
   have f2:bw 400 (2:Int):=cA (n:=400) (by decide) (by decide)
   have bg:∀ {n:Nat}{i:Int},bw n i->n<=900->rZ i:=λ h k=>a5 h (by omega)
   have qd:=q.den_pos
   have Q2:aj 2 ak (aa (aT (aa (mv 9) (aa (mv 10) ah))) (aa (aT (aa (mv 6) (aa (mc (.int 1)) ah))) ah)) E2 s5=.ok (fq (q+(more:Rat))) s5:=
    call2 (cj (vs:=[.int q.num,.int q.den]) rfl (by simp)) (cj (vs:=[.int more,.int 1]) rfl (by simp)) (dY (p:=q) (q:=(more:Rat)) s5 (n:=700) (by decide) hq (jM (n:=700) (fm.mono (by decide)) (by decide)))
   let L4:List AV:=[.tup [.int (q.num+more),.int q.den],.tup [.int q.num,.int (q.den+more)],.tup [.int (q.num * 2),.int (q.den * 2)],fq (q+(more:Rat))]
   have e8:aF (bz (aa (aT (aa (af av (mv 9) (mv 6)) (aa (mv 10) ah))) (aa (aT (aa (mv 9) (aa (af av (mv 10) (mv 6)) ah))) (aa (aT (aa (af bf (mv 9) (mc (.int 2))) (aa (af bf (mv 10) (mc (.int 2))) ah))) (aa (aj 2 ak (aa (aT (aa (mv 9) (aa (mv 10) ah))) (aa (aT (aa (mv 6) (aa (mc (.int 1)) ah))) ah))) ah))))) E2 s5=.ok (.ref s5.length) (s5++[.lst L4]):=
    cJ (dy (aH (cj rfl (by simp)) (aH (cj rfl (by simp)) (aH (cj (aH (ax rfl rfl (ie (bg hq.a (by decide)) (bg f2 (by decide)))) (aH (ax rfl rfl (ie (bg hq.b (by decide)) (bg f2 (by decide)))) rfl)) (by simp)) (aH Q2 rfl)))) (by show(4:Nat)<=1000;decide))
   have f4:∀ x∈L4,fd 1 x:=by
    have na:bw 900 q.num:=hq.a.mono (by decide)
    have nb:bw 900 (q.den:Int):=hq.b.mono (by decide)
    have m7:bw 700 more:=fm.mono (by decide)
    intro x hx
    simp only[L4,List.mem_cons,List.not_mem_nil,or_false]at hx
    rcases hx with rfl|rfl|rfl|rfl
    ·exact vg ((hq.a.add m7).mono (by decide)) nb
    ·exact vg na ((hq.b.add m7).mono (by decide))
    ·exact vg ((hq.a.mul (cA (n:=2) (i:=2) (by decide) (by decide))).mono (by decide)) ((hq.b.mul (cA (n:=2) (i:=2) (by decide) (by decide))).mono (by decide))
    ·have:Sz (700+3+1) (q+(more:Rat)):=hq.add (jM (n:=3) (CP (n:=3) (by rcases CD with rfl|rfl<;>decide) (by rcases CD with rfl|rfl<;>decide)) (by decide))
     exact k8 this (by decide)
   refine Eq.mpr (gG e8 _ _) ?_
   rw[wD]
   clear wD K2
   have P4:zP (fd 1) [.lst L4]:=zP.one f4
   have l4:aq (s5++[.lst L4]) s5.length=some L4:=aE _ _
   obtain⟨u,eu⟩:∃ u,L4[wn]? = some u:=⟨_,List.getElem?_eq_getElem (show wn < 4 by omega)⟩
   rw[WS.2.2.2.2.2.1]
   have GR:af ai (mv 8) (mv 4) (uq d i at' pj wn s.length more none (some (.ref s5.length)) (some (.int q.num)) (some (.int q.den))) (s5++[.lst L4])=.ok u (s5++[.lst L4]):=ax rfl rfl (jW l4 eu)
   refine Eq.mpr (congrArg _ rfl) (Eq.mpr (dJ GR _) ?_)
   exact HW _ none (some (.ref s5.length)) (some (.int q.num)) (some (.int q.den)) u (aL r5) (aL l5) ((D5.iL P4).mono (by omega)) (G5.trans (Gk.app c d _ _)) (f4 u (List.mem_of_getElem? eu)) K hK _
  ·-- a number
   rw[dJ (bX (gB (n:="tuple") (b:=false) (m:=af ai (mv 5) (mv 3)) (env:=E) ⟨_,rfl⟩ (eP s5 none none none none _ r5 ej) (by unfold cw;rfl))),if_neg Bool.false_ne_true]
   let L4:List AV:=[.int (j+more),.int (j+more),.bl true,.aY]
   have em:af av (af ai (mv 5) (mv 3)) (mv 6) E s5=.ok (.int (j+more)) s5:=ax (eP s5 none none none none _ r5 ej) rfl rfl
   have e8:aF (bz (aa (af av (af ai (mv 5) (mv 3)) (mv 6)) (aa (af av (af ai (mv 5) (mv 3)) (mv 6)) (aa (mc (.bl true)) (aa (mc .aY) ah))))) E s5=.ok (.ref s5.length) (s5++[.lst L4]):=
    cJ (dy (aH em (aH em (aH rfl (aH rfl rfl)))) (by show(4:Nat)<=1000;decide))
   have f4:∀ x∈L4,fd 1 x:=by
    intro x hx
    simp only[L4,List.mem_cons,List.not_mem_nil,or_false]at hx
    rcases hx with rfl|rfl|rfl|rfl
    ·exact JU (hj.add fm) (by decide)
    ·exact JU (hj.add fm) (by decide)
    ·exact .inl trivial
    ·exact .inl trivial
   have P4:zP (fd 1) [.lst L4]:=zP.one f4
   have l4:aq (s5++[.lst L4]) s5.length=some L4:=aE _ _
   obtain⟨u,eu⟩:∃ u,L4[wn]? = some u:=⟨_,List.getElem?_eq_getElem (show wn < 4 by omega)⟩
   have GR:af ai (aF (bz (aa (af av (af ai (mv 5) (mv 3)) (mv 6)) (aa (af av (af ai (mv 5) (mv 3)) (mv 6)) (aa (mc (.bl true)) (aa (mc .aY) ah)))))) (mv 4) E s5=.ok u (s5++[.lst L4]):=by
    have ix:=jW l4 eu
    unfold af at e8 ⊢
    rw[e8,ao]
    exact ix
   rw[WS.2.2.2.2.2.1,dJ GR]
   exact HW _ none none none none u (aL r5) (aL l5) ((D5.iL P4).mono (by omega)) (G5.trans (Gk.app c d _ _)) (f4 u (List.mem_of_getElem? eu)) K hK _
def Tq (N:Nat)(st:S)(a:Nat):Prop:=∃ ws,aq st a=some ws/\ws.length<=12/\∀ x∈ws,fd 2 x∨∃ i es,x=.ref i/\N<=i/\aq st i=some es/\es.length<=24/\∀ e∈es,fd 1 e
theorem Tq.keep {N a:Nat}{st eK:S}(h:Tq N st a)(k:∀ i xs,(i=a∨N<=i)->aq st i=some xs->aq eK i=some xs):Tq N eK a:=by
 obtain⟨ws,l,hl,hw⟩:=h
 refine⟨ws,k _ _ (.inl rfl) l,hl,λ x hx=>?_⟩
 rcases hw x hx with h|⟨i,es,e,hi,li,he⟩
 ·exact .inl h
 ·exact .inr ⟨i,es,e,hi,k _ _ (.inr hi) li,he⟩
theorem Tq.tb {N a:Nat}{st:S}(h:Tq N st a):∃ ws,rY st (.ref a) ws:=by
 obtain⟨ws,l,hl,hw⟩:=h
 refine⟨ws,(nu l).ok.leaf,rfl,l,hl,λ x hx=>?_⟩
 rcases hw x hx with h|⟨i,es,e,hi,li,h1,h2⟩
 ·exact .inl h
 ·exact .inr ⟨i,es,e,li,h1,h2⟩
abbrev mL (d i j:Nat)(x3:Option AV)(word:AV)(f:Nat)(x6:Option AV)(way:Int)(at_:Nat)(name:AV)(again:Int)(letter:AV)(x12:Option AV):En:=[some (.ref d),some (.ref i),some (.ref j),x3,some word,some (.ref f),x6,some (.int way),some (.int at_),some name,some (.int again),some letter,x12]
noncomputable abbrev DN:Ms:=(dU (cB (af ee (mv 7) (mc (.int 2)))) (aO 6 (af av (af av (gW (mv 6) oN (oS (mv 8))) (af lH (aF (bz (aa (af ai (mv 6) (mv 8)) ah))) (mv 10))) (gW (mv 6) (oS (mv 8)) oN))) (dU (cB (af bI (mv 7) (mc (.int 2)))) (au (aO 12 (gW (mv 6) (oS (mv 8)) (oS (af av (mv 8) (mc (.int 2))))))
 (aO 6 (af av (af av (gW (mv 6) oN (oS (mv 8))) (iY (mv 12) (cK cn (mc (.int 1))))) (gW (mv 6) (oS (af av (mv 8) (mc (.int 2)))) oN)))) (dU (cB (af bI (mv 7) (mc (.int 3)))) (aO 6 (iY (mv 6) (cK cn (mc (.int 1))))) (dU (cB (af bI (mv 7) (mc (.int 4)))) (aO 6 (af av (gW (mv 6) oN (oS (mv 8))) (gW (mv 6) (oS (af av (mv 8) (mc (.int 1)))) oN))) (dU (cB (af ee (mv 7) (mc (.int 7)))) (gH (af av (aT (aa (mv 4) ah)) (gW (af ai (mv 6) (mv 8)) (oS (mc (.int 1))) oN)) (dO (mv 6) (mv 8))) (dU (cB (af bI (mv 7) (mc (.int 7)))) (gH (aF (dm d_ (eh (af ai (mv 6) (mv 8))))) (dO (mv 6) (mv 8))) (aO 6 (af av (mv 6) (gW (mv 6) oN (oS (mc (.int 1))))))))))))
theorem cI {op:AV->AV->S->R AV}{c:Bool}{m m2:Ev}{env:En}{st:S}{a b:AV}(h1:m env st=.ok a st)(h2:m2 env st=.ok b st)(h:op a b st=.ok (.bl c) st) (x y:Ms)(N:En->S->Prop)(T:AV->S->Prop):(dU (cB (af op m m2)) x y env st).wp N T=if c=true then (x env st).wp N T else (y env st).wp N T:=by
 rw[WS.2.2.2.1,dJ (jh (ax h1 h2 h))]
theorem w8 {c d n N i j a f at_:Nat}{st:S}{zs:List AV}{word name letter:AV}{way again:Int}{x3 x12:Option AV}(D:Dr c d n st)(l:aq st a=some zs)(z5:zs.length<=5)(hz:∀ x∈zs,R9 x)(DC:at_ < zs.length)(ha:a≠c/\a≠d)(hw:fd 0 word)(ag:1<=again/\again<=2)(aN:a < N)(N0:N<=st.length)(T:AV->S->Prop) :
  (DN (mL d i j x3 word f (some (.ref a)) way at_ name again letter x12) st).wp (λ iC eK=>∃ a' y12,iC=mL d i j x3 word f (some (.ref a')) way at_ name again letter y12/\Tq N eK a'/\(a'=a∨st.length<=a')/\a' < eK.length/\st.length<=eK.length/\(∀ k,k < st.length->k≠a->eK[k]? = st[k]?)/\Dr c d n eK) T:=by
 have Hn:∀ x∈zs,fd 2 x:=λ x hx=>(hz x hx).fd
 have la:a < st.length:=(List.getElem?_eq_some_iff.mp (ay l)).1
 have lv:∀ (s:S) (y12:Option AV),aq s a=some zs->Le (fd 2) 5 (mv 6) (mL d i j x3 word f (some (.ref a)) way at_ name again letter y12) s:=λ s y12 h=>nY (λ _=>rfl) h z5 Hn
 have done:∀ {m:Ev}{M:Nat}{s:S}{y12:Option AV},M<=12->Le (fd 2) M m (mL d i j x3 word f (some (.ref a)) way at_ name again letter y12) s->(∀ v s',m (mL d i j x3 word f (some (.ref a)) way at_ name again letter y12) s=.ok v s'->∃ k,v=.ref k/\s.length<=k)->st.length<=s.length->(∀ k,k < st.length->k≠a->s[k]? = st[k]?)->Dr c d n s->
   (aO 6 m (mL d i j x3 word f (some (.ref a)) way at_ name again letter y12) s).wp (λ iC eK=>∃ a' y12,iC=mL d i j x3 word f (some (.ref a')) way at_ name again letter y12/\Tq N eK a'/\(a'=a∨st.length<=a')/\a' < eK.length/\st.length<=eK.length/\(∀ k,k < st.length->k≠a->eK[k]? = st[k]?)/\Dr c d n eK) T:=by
  intro m M s y12 hM h Gn hs hk Ds
  obtain⟨b,z,ws,e1,e2,e3,e4,e5⟩:=h.go
  obtain⟨k,ek,Kz⟩:=Gn _ _ e1
  cases ek
  refine Eq.mpr (gG e1 _ _) ?_
  refine⟨b,y12,rfl,⟨ws,e2,by omega,λ x hx=>.inl (e4 x hx)⟩,.inr (by omega),(List.getElem?_eq_some_iff.mp (ay e2)).1,by rw[List.length_append];omega,λ q hq Qd=>?_,Ds.iL e5⟩
  rw[List.getElem?_append_left (by omega)];exact hk q hq Qd
 have newAdd:∀ {m m2:Ev}{env:En}{s:S}{M M2:Nat},M+M2<=1000->Le (fd 2) M m env s->Le (fd 2) M2 m2 env s->∀ v s',af av m m2 env s=.ok v s'->∃ k,v=.ref k/\s.length<=k:=by
  intro m m2 env s M M2 hM h1 h2 v s' e
  obtain⟨b,z,ws,q1,q2,q3,q4,q5⟩:=h1.go
  obtain⟨b2,z2,KS,r1,r2,r3,r4,r5⟩:=h2 z q5
  have:af av m m2 env s=.ok (.ref (s++z++z2).length) (s++z++z2++[.lst (ws++KS)]):=by
   unfold af
   rw[q1,ao,r1,ao,w_ (aL q2) r2 (by omega)]
  rw[this]at e
  cases e
  exact⟨_,rfl,by simp only[List.length_append];omega⟩
 have newRev:∀ {m m2:Ev}{env:En}{s:S}{M:Nat},Le (fd 2) M m env s->(∀ s:S,m2 env s=.ok (.int (-1)) s)->∀ v s',iY m m2 env s=.ok v s'->∃ k,v=.ref k/\s.length<=k:=by
  intro m m2 env s M h1 hk v s' e
  obtain⟨b,z,ws,q1,q2,q3,q4,q5⟩:=h1.go
  have:iY m m2 env s=.ok (.ref (s++z).length) (s++z++[.lst ws.reverse]):=by
   unfold iY
   rw[q1,ao,hk,ao]
   show(need (aq (s++z) b) λ xs=>R.ok (AV.ref (s++z).length) (s++z++[.lst xs.reverse]))=_
   rw[q2];rfl
  rw[this]at e
  cases e
  exact⟨_,rfl,by simp only[List.length_append];omega⟩
 have same:∀ k,k < st.length->k≠a->st[k]? = st[k]?:=λ _ _ _=>rfl
 have place:∀ (s:S) (u:AV),aq s a=some zs->st.length<=s.length->(∀ k,k < st.length->k≠a->s[k]? = st[k]?)->Dr c d n s->u.low s.length=true->(fd 2 u∨∃ i es,u=.ref i/\N<=i/\aq s i=some es/\es.length<=24/\∀ e∈es,fd 1 e)->
   (dO (mv 6) (mv 8) u (mL d i j x3 word f (some (.ref a)) way at_ name again letter x12) s).wp (λ iC eK=>∃ a' y12,iC=mL d i j x3 word f (some (.ref a')) way at_ name again letter y12/\Tq N eK a'/\(a'=a∨st.length<=a')/\a' < eK.length/\st.length<=eK.length/\(∀ k,k < st.length->k≠a->eK[k]? = st[k]?)/\Dr c d n eK) T:=by
  intro s u hl hs hk Ds lu hu
  refine wF (f:=a) (j:=at_) (m:=at_) rfl rfl hl (by unfold qQ;rw[if_pos (by omega),if_pos (by omega)];rfl) ?_
  refine⟨a,x12,rfl,⟨zs.set at_ u,mZ hl,by rw[List.length_set];omega,λ x hx=>?_⟩,.inl rfl,by rw[List.length_set];omega,by rw[List.length_set];omega,λ k Qw Kz=>by rw[List.getElem?_set_ne (λ q=>Kz q.symm)];exact hk k Qw Kz,Ds.set ha.1 ha.2 (kO λ x hx=>(List.mem_or_eq_of_mem_set hx).elim (λ h=>(lY (Hn x h) _).1) (λ e=>e ▸ lu))⟩
  rcases List.mem_or_eq_of_mem_set hx with h|rfl
  ·exact .inl (Hn x h)
  ·rcases hu with h|⟨i,es,e,hi,li,h⟩
   ·exact .inl h
   ·exact .inr ⟨i,es,e,hi,c7 (by rw[List.getElem?_set_ne (by omega)];exact ay li),h⟩
 have GR:∀ (s:S) (x12:Option AV),aq s a=some zs->af ai (mv 6) (mv 8) (mL d i j x3 word f (some (.ref a)) way at_ name again letter x12) s=.ok zs[at_] s:=λ s x12 h=>ax rfl rfl (jW h (List.getElem?_eq_getElem DC))
 obtain⟨es,ex,h9,Gu,_,_⟩:=(hz _ (List.getElem_mem DC)).parts
 unfold DN
 rw[cI (c:=decide (way < 2)) rfl rfl rfl]
 by_cases w2:way < 2
 ·rw[if_pos (by simpa using w2)]
  have l1:=i4 (lo:=oN) (hi:=oS (mv 8)) (lv st x12 l) (λ _=>rfl) (λ _=>rfl)
  have l2:=le_mul (m2:=mv 10) (k:=again) (zQ (st:=st) (env:=mL d i j x3 word f (some (.ref a)) way at_ name again letter x12) (P:=fd 2) (λ e _=>GR (st++e) x12 (aL l)) (Hn _ (List.getElem_mem DC))) (λ _=>rfl) (by omega) (by omega) (by decide)
  have l3:=i4 (lo:=oS (mv 8)) (hi:=oN) (lv st x12 l) (λ _=>rfl) (λ _=>rfl)
  have Ct:=gL (by decide) l1 l2
  exact done (by decide) (gL (by decide) Ct l3) (newAdd (by decide) Ct l3) (Nat.le_refl _) same D
 rw[if_neg (by simpa using w2),cI (c:=decide (way=2)) rfl rfl rfl]
 by_cases NI:way=2
 ·rw[if_pos (by simpa using NI)]
  refine aB λ K hK=>?_
  obtain⟨b,z,ws,e1,e2,e3,e4,e5⟩:=(zN (lo:=oS (mv 8)) (hi:=oS (af av (mv 8) (mc (.int 2)))) (a:=at_) (b:=at_+2) (lv st x12 l) (λ _=>rfl) (λ _=>rfl) (by omega) (by omega)).go
  refine Eq.mpr (gG e1 _ _) ?_
  rw[hK]
  have N4:aq (st++z) a=some zs:=aL l
  have l1:=i4 (lo:=oN) (hi:=oS (mv 8)) (lv (st++z) (some (.ref b)) N4) (λ _=>rfl) (λ _=>rfl)
  have l2:=zO (m2:=cK cn (mc (.int 1))) (nY (P:=fd 2) (N:=2) (m:=mv 12) (env:=mL d i j x3 word f (some (.ref a)) way at_ name again letter (some (.ref b))) (λ _=>rfl) e2 (by omega) e4) (λ _=>rfl)
  have l3:=i4 (lo:=oS (af av (mv 8) (mc (.int 2)))) (hi:=oN) (lv (st++z) (some (.ref b)) N4) (λ _=>rfl) (λ _=>rfl)
  have Ct:=gL (by decide) l1 l2
  exact done (y12:=some (.ref b)) (by decide) (gL (by decide) Ct l3) (newAdd (by decide) Ct l3) (by rw[List.length_append];omega) (λ k hk _=>List.getElem?_append_left hk) (D.iL e5)
 rw[if_neg (by simpa using NI),cI (c:=decide (way=3)) rfl rfl rfl]
 by_cases w3:way=3
 ·rw[if_pos (by simpa using w3)]
  exact done (by decide) (zO (m2:=cK cn (mc (.int 1))) (lv st x12 l) (λ _=>rfl)) (newRev (lv st x12 l) (λ _=>rfl)) (Nat.le_refl _) same D
 rw[if_neg (by simpa using w3),cI (c:=decide (way=4)) rfl rfl rfl]
 by_cases w4:way=4
 ·rw[if_pos (by simpa using w4)]
  have l1:=i4 (lo:=oN) (hi:=oS (mv 8)) (lv st x12 l) (λ _=>rfl) (λ _=>rfl)
  have l3:=i4 (lo:=oS (af av (mv 8) (mc (.int 1)))) (hi:=oN) (lv st x12 l) (λ _=>rfl) (λ _=>rfl)
  exact done (by decide) (gL (by decide) l1 l3) (newAdd (by decide) l1 l3) (Nat.le_refl _) same D
 rw[if_neg (by simpa using w4),cI (c:=decide (way < 7)) rfl rfl rfl]
 by_cases w6:way < 7
 ·rw[if_pos (by simpa using w6)]
  have et:aT (aa (mv 4) ah) (mL d i j x3 word f (some (.ref a)) way at_ name again letter x12) st=.ok (.tup [word]) st:=cj (aH rfl rfl) (by simp)
  have es':gW (af ai (mv 6) (mv 8)) (oS (mc (.int 1))) oN (mL d i j x3 word f (some (.ref a)) way at_ name again letter x12) st=.ok (.tup (es.drop 1)) st:=by
   unfold gW
   rw[GR st x12 l,ao,ex]
   show R.ok (AV.tup (de es (some 1) none)) st=_
   rw[cutD]
  have ea:=ax (op:=av) et es' (rP (xs:=[word]) (ys:=es.drop 1) (by intro q;have:=congrArg List.length q;rw[List.length_drop]at this;simp at this;omega) (by rw[List.length_drop];simp;omega))
  rw[WS.2.2.2.2.2.1,dJ ea]
  have fu:fd 2 (.tup ([word]++es.drop 1)):=.inr ⟨_,rfl,by rw[List.length_append,List.length_drop];simp;omega,λ x hx=>by
   rcases List.mem_append.mp hx with h|h
   ·rw[List.mem_singleton.mp h];exact .inl hw
   ·exact Gu x (List.mem_of_mem_drop h)⟩
  exact place st _ l (Nat.le_refl _) same D (lY fu _).1 (.inl fu)
 rw[if_neg (by simpa using w6),cI (c:=decide (way=7)) rfl rfl rfl]
 by_cases w7:way=7
 ·rw[if_pos (by simpa using w7)]
  have en:aF (dm d_ (eh (af ai (mv 6) (mv 8)))) (mL d i j x3 word f (some (.ref a)) way at_ name again letter x12) st=.ok (.ref st.length) (st++[.lst es]):=by
   refine cJ ?_
   unfold dm eh
   rw[GR st x12 l,ao,ex];rfl
  rw[WS.2.2.2.2.2.1,dJ en]
  exact place _ _ (aL l) (by rw[List.length_append];omega) (λ k hk _=>List.getElem?_append_left hk) (D.iL (zP.one Gu)) (by simp[AV.low]) (.inr ⟨_,es,rfl,N0,aE _ _,by omega,Gu⟩)
 ·rw[if_neg (by simpa using w7)]
  have l3:=i4 (lo:=oN) (hi:=oS (mc (.int 1))) (lv st x12 l) (λ _=>rfl) (λ _=>rfl)
  exact done (by decide) (gL (by decide) (lv st x12 l) l3) (newAdd (by decide) (lv st x12 l) l3) (Nat.le_refl _) same D
theorem uj {α:Type}{xs:List α}(h:1<=xs.length):gS xs (-1)=some (xs[xs.length - 1]'(by omega)):=by
 unfold gS
 have e:qQ xs.length (-1)=some (xs.length - 1):=by
  unfold qQ
  rw[if_neg (by omega),if_pos (by omega)]
  congr 1;omega
 rw[e]
 exact List.getElem?_eq_getElem (by omega)
theorem wU {i:Nat}{xs:List AV}{m:Ev}{env:En}{s:S}(h:aq s i=some xs)(e:m env s=.ok (.ref i) s):aF (dm d_ (eh m)) env s=.ok (.ref s.length) (s++[.lst xs]):=by
 refine cJ ?_
 unfold dm eh
 rw[e,ao]
 show(need (aq s i) λ xs=>R.ok xs s).bind d_=_
 rw[h];rfl
theorem R9.name {x:AV}(h:R9 x)(s:S):∃ p,ai x (.int 0) s=.ok (.str p) s/\iN p 8:=by
 obtain⟨p,⟨e,f,w,d,r,k,g,a,rfl,_⟩,hp⟩:=h.ex
 exact⟨p,rfl,hp⟩
theorem iA {t:Str}{n:Nat}(h:iN t n)(hn:n<=40):fd 0 (.str t):=(h.mono hn:iN t 40)
theorem rK {c d n i j:Nat}{s:S}(D:Dr c d n s)(hn:n<=900000000){xs ys:List AV}(lx:aq s i=some xs)(ly:aq s j=some ys)(ic:i≠c/\i≠d)(jc:j≠c/\j≠d)(z1:1<=xs.length)(z5:xs.length<=5)(hl:ys.length=xs.length)(hx:∀ x∈xs,R9 x)(hy:∀ x∈ys,R9 x) :
    (bC [.ref d,.ref i,.ref j] s).wp λ v s'=>∃ N a b,v=.tup [.ref a,.ref b]/\Tq N s' a/\Tq N s' b/\Dr c d (n+20) s'/\Gk c d s s':=by
  have lc:=D.v8
  have ld:=D.v7
  unfold bC eS
  refine MY ?_
  refine aB λ K hK=>?_
  rw[vw]
  try walk_at "w"
  refine(bp D (by omega) (by omega) (g_ (by omega) (by omega))).mono ?_
  rintro _ s1 ⟨way,rfl,w0,w1,D1,K1⟩
  have L6:=K1.gk.lst (n:=0) ic.1 ic.2 lx
  try simp only[↓WS,↓WE,↓WV,Lq,bR,UU,Nat.reduceSub,↓reduceIte,↓dJ (uW L6)]
  refine(bp D1 (by omega) (by omega) (g_ (by omega) (by omega))).mono ?_
  rintro _ s2 ⟨OQ,rfl,a0,a1,D2,K2⟩
  have N3:=K2.gk.lst (n:=0) ic.1 ic.2 L6
  obtain⟨name,en,Ae⟩:=(hx _ (List.getElem_mem (show xs.length - 1 < xs.length by omega))).name s2
  have e1:ai (.ref i) (.int (-1)) s2=.ok (xs[xs.length - 1]'(by omega)) s2:=by
    show(need (aq s2 i) λ xs=>need (gS xs (-1)) λ v=>R.ok v s2)=_
    rw[N3,aG,uj z1];rfl
  have ur:(need (aq s2 i) λ xs=>need (gS xs (-1)) λ v=>R.ok v s2)=.ok (xs[xs.length - 1]'(by omega)) s2:=e1
  try walk_at "w"
  rw[dJ ur,dJ en,hK]
  clear hK K e1 ur en
  obtain⟨at_,rfl⟩:∃ m:Nat,OQ=m:=⟨OQ.toNat,by omega⟩
  have G2:=K1.gk.trans K2.gk
  clear D1 K1 K2 L6
  refine aB λ K hK=>?_
  try walk_at "w"
  have D3:=D2.app (e:=[.lst [.int 1,.int 1,.int 2]]) (D2.cl.add (by simp[AO.low,bx,AV.low]))
  refine(bp D3 (by omega) (by omega) (g_ (by omega) (by omega))).mono ?_
  rintro _ s4 ⟨q,rfl,q0,q1,D4,K4⟩
  have qY:=D2.v8
  have Qt:=D2.v7
  obtain⟨u,hu,eu⟩:=tm (s:=s4) (i:=s2.length) (j:=q) (K4.gk.lst (n:=0) (by omega) (by omega) (aE s2 _)) q0 q1
  obtain⟨again,rfl,ag⟩:∃ again:Int,u=.int again/\(1<=again/\again<=2):=by
    simp only[List.mem_cons,List.not_mem_nil,or_false]at hu
    rcases hu with rfl|rfl|rfl<;>exact⟨_,rfl,by omega,by omega⟩
  rw[dJ eu]
  try walk_at "w"
  refine(bp D4 (by omega) (by omega) (g_ (by omega) (by omega))).mono ?_
  rintro _ s5 ⟨q2,rfl,NP,Pp,D5,K5⟩
  obtain⟨letter,el,Mz,_⟩:=Cz (s:=s5) (j:=q2) xb (by decide) NP (by rw[xa];omega)
  rw[dJ el,hK]
  clear hK K el eu hu
  have G5:=((G2.trans (Gk.app c d s2 _)).trans K4.gk).trans K5.gk
  have N2:=G5.lst (n:=0) ic.1 ic.2 lx
  clear D2 D3 D4 K4 K5 N3 G2
  refine aB λ K hK=>?_
  try simp only[↓WS,↓WE,↓WV,Lq,bR,UU,Nat.reduceSub,↓reduceIte,↓dJ (uW N2)]
  refine(bp D5 (by omega) (by omega) (g_ (by omega) (by omega))).mono ?_
  rintro _ s6 ⟨q3,rfl,Po,Pn,D6,K6⟩
  have PK:=K6.gk.lst (n:=0) ic.1 ic.2 N2
  obtain⟨x3,P7,OE⟩:=tm (j:=q3) PK Po Pn
  obtain⟨p3,OH,Qf⟩:=(hx x3 P7).name s6
  have JV:(need (aq s6 i) λ xs=>need (gS xs q3) λ v=>R.ok v s6)=.ok x3 s6:=OE
  try walk_at "w"
  rw[dJ JV,dJ OH]
  have az:iN "z" 1:=⟨by decide +kernel,by decide +kernel⟩
  have ab:iN " " 1:=⟨by decide +kernel,by decide +kernel⟩
  have ae:iN "" 0:=⟨by decide +kernel,by decide +kernel⟩
  have aA:iN "A" 1:=⟨by decide +kernel,by decide +kernel⟩
  have a9:iN "abcdefghi" 9:=⟨by decide +kernel,by decide +kernel⟩
  have RN:=Ae.2
  have Me:=az.2
  have GB:=ab.2
  have N1:=Ae.app az
  let E5:En:=[some (.ref d),some (.ref i),some (.ref j),none,none,none,none,some (.int way),some (.int at_),some (.str name),some (.int again),some (.str letter),none]
  have e2:xJ (af av (mv 9) (mc (.str "z"))) oN (oS (mc (.int 8))) E5 s6=.ok (.str (Txt.slice (name++"z") none (some 8))) s6:=by
    unfold xJ
    rw[ax (m:=mv 9) (m2:=mc (.str "z")) (env:=E5) rfl rfl (add_str (t:=name) (u:="z") (by omega))]
    exact if_pos (N1.small (by decide))
  have e3:af av (mv 9) (mc (.str " ")) E5 s6=.ok (.str (name++" ")) s6:=ax rfl rfl (add_str (by omega))
  show(xJ (af av (mv 9) (mc (.str "z"))) oN (oS (mc (.int 8))) E5 s6).wp _
  rw[dJ e2]
  show(av (.str name) (.str " ") s6).wp _
  rw[dJ (add_str (t:=name) (u:=" ") (by omega))]
  refine⟨Bj (by simp),?_⟩
  rw[hK]
  clear hK K OE JV OH e2 e3
  let L8:List AV:=[.str letter,.str p3,.str (Txt.slice (name++"z") none (some 8)),.str "",.str "A",.str "abcdefghi",.str (name++" "),.int 7]
  have f8:∀ x∈L8,fd 0 x:=by
    intro x hx
    simp only[L8,List.mem_cons,List.not_mem_nil,or_false]at hx
    rcases hx with rfl|rfl|rfl|rfl|rfl|rfl|rfl|rfl
    · exact iA Mz (by decide)
    · exact iA Qf (by decide)
    · exact iA (N1.slice _ _) (by decide)
    · exact iA ae (by decide)
    · exact iA aA (by decide)
    · exact iA a9 (by decide)
    · exact iA (Ae.app ab) (by decide)
    · exact(cA (n:=4) (by decide) (by decide)).mono (by decide)
  have D7:=D6.iL (zP.one (P:=fd 0) f8)
  have G7:=(G5.trans K6.gk).trans (Gk.app c d s6 [.lst L8])
  have l7:aq (s6++[.lst L8]) s6.length=some L8:=aE _ _
  have h6c:=D6.v8
  have h6d:=D6.v7
  revert D7 G7 l7
  show Dr c d (n+1+1+1+1+1) (s6++[.lst L8])->Gk c d s (s6++[.lst L8])->aq (s6++[.lst L8]) s6.length=some L8->(au _ _ [some (.ref d),some (.ref i),some (.ref j),some (.ref s6.length),none,none,none,some (.int way),some (.int at_),some (.str name),some (.int again),some (.str letter),none] (s6++[.lst L8])).wp _ _
  have h6c':s6.length≠c/\s6.length≠d:=⟨by omega,by omega⟩
  generalize s6++[.lst L8]=s7
  generalize s6.length=i3 at h6c'
  intro D7 G7 l7
  refine aB λ K hK=>?_
  try walk_at "w"
  refine(bp D7 (by omega) (by omega) (g_ (by omega) (by omega))).mono ?_
  rintro _ s8 ⟨q4,rfl,Pm,RC,D8,K8⟩
  obtain⟨word,hw,ew⟩:=tm (s:=s8) (i:=i3) (j:=q4) (K8.gk.lst (n:=0) h6c'.1 h6c'.2 l7) Pm (by show q4 < ((8:Nat):Int);omega)
  have OF:(need (aq s8 i3) λ xs=>need (gS xs q4) λ v=>R.ok v s8)=.ok word s8:=ew
  try rw[dJ OF]
  try rw[dJ ew]
  rw[hK]
  clear hK K ew OF
  have fw:=f8 word hw
  have G8:=G7.trans K8.gk
  have PJ:=G8.lst (n:=0) ic.1 ic.2 lx
  have PH:=G8.lst (n:=0) jc.1 jc.2 ly
  clear D7 K8 G7 l7 hw
  refine aB λ K hK=>?_
  refine Eq.mpr (gG (cJ (dy (vs:=[]) rfl (by simp))) _ _) ?_
  rw[hK]
  clear hK K
  have D9:=D8.iL (zP.one (P:=fd 2) (l:=[]) (λ _ h=>nomatch h))
  have f9:aq (s8++[.lst []]) s8.length=some []:=aE _ _
  have L5:aq (s8++[.lst []]) i=some xs:=aL PJ
  have L3:aq (s8++[.lst []]) j=some ys:=aL PH
  have G9:=G8.trans (Gk.app c d s8 [.lst []])
  have Qa:s.length<=s8.length:=G8.len
  have ef:(s8++[AO.lst []]).length=s8.length+1:=by simp
  revert D9 f9 L5 L3 G9 ef
  show Dr c d (n+1+1+1+1+1+1) (s8++[.lst []])->aq (s8++[.lst []]) s8.length=some []->aq (s8++[.lst []]) i=some xs->aq (s8++[.lst []]) j=some ys->Gk c d s (s8++[.lst []])->(s8++[AO.lst []]).length=s8.length+1->(au _ _ (mL d i j (some (.ref i3)) word s8.length none way at_ (.str name) again (.str letter) none) (s8++[.lst []])).wp _ _
  generalize s8++[.lst []]=s9
  generalize s8.length=f at Qa
  intro D9 f9 L5 L3 G9 ef
  refine aB λ K hK=>?_
  have Jl:∀ x∈xs,fd 2 x:=λ x h=>(hx x h).fd
  have Jk:∀ x∈ys,fd 2 x:=λ x h=>(hy x h).fd
  have cx:=wU (m:=mv 1) (env:=mL d i j (some (.ref i3)) word f none way at_ (.str name) again (.str letter) none) L5 rfl
  have cy:=wU (m:=mv 2) (env:=mL d i j (some (.ref i3)) word f none way at_ (.str name) again (.str letter) none) (s:=s9++[.lst xs]) (aL L3) rfl
  have eA:(s9++[AO.lst xs]).length=f+2:=by rw[List.length_append,ef];rfl
  have src:aV (aT (aa (aF (dm d_ (eh (mv 1)))) (aa (aF (dm d_ (eh (mv 2)))) ah))) (mL d i j (some (.ref i3)) word f none way at_ (.str name) again (.str letter) none) s9=.ok ([.ref (f+1),.ref (f+2)],[]) (s9++[.lst xs]++[.lst ys]):=by
    unfold aV
    rw[D_ (wV cx (wV cy rfl)) (by simp),ef,eA];rfl
  rw[WS.2.2.2.2.2.2.2.2.1,dJ src]
  have D10:=(D9.iL (zP.one Jl)).iL (zP.one Jk)
  have MZ:aq (s9++[.lst xs]++[.lst ys]) f=some []:=aL (aL f9)
  have FV:aq (s9++[.lst xs]++[.lst ys]) (f+1)=some xs:=by rw[<-ef];exact aL (aE _ _)
  have FT:aq (s9++[.lst xs]++[.lst ys]) (f+2)=some ys:=by rw[<-eA];exact aE _ _
  have G10:=(G9.trans (Gk.app c d s9 [.lst xs])).trans (Gk.app c d _ [.lst ys])
  have OJ:(s9++[AO.lst xs]++[AO.lst ys]).length=f+3:=by rw[List.length_append,eA];rfl
  revert D10 MZ FV FT G10 OJ
  generalize s9++[.lst xs]++[.lst ys]=o7
  intro D10 MZ FV FT G10 OJ
  have app:∀ (st:S) (g:List AV) (a:Nat) (x12:Option AV) (T:AV->S->Prop) (Nx:En->S->Prop),aq st f=some g->g.length<=5->Nx (mL d i j (some (.ref i3)) word f (some (.ref a)) way at_ (.str name) again (.str letter) x12) (st.set f (.lst (g++[.ref a])))->(pJ (nV "list" f_ (mv 5) (aa (mv 6) ah)) (mL d i j (some (.ref i3)) word f (some (.ref a)) way at_ (.str name) again (.str letter) x12) st).wp Nx T:=by
    intro st g a x12 T Nx hf hg hN
    have:nV "list" f_ (mv 5) (aa (mv 6) ah) (mL d i j (some (.ref i3)) word f (some (.ref a)) way at_ (.str name) again (.str letter) x12) st=.ok .aY (st.set f (.lst (g++[.ref a]))):=by
      show(need (Mm.cw "list" (.ref f) st) λ _=>f_ (.ref f) [.ref a] st)=_
      rw[show Mm.cw "list" (.ref f) st=some () from by show(aq st f).map _=_;rw[hf];rfl,aG]
      show(need (aq st f) λ xs=>if xs.length < sizeLine then R.ok AV.aY (st.set f (.lst (xs++[.ref a]))) else .bad)=_
      rw[hf,aG,if_pos (a4 (by omega))]
    rw[WS.2.2.2.2.1,dJ this]
    exact hN
  refine jY (λ l env st=>∃ (x6 x12:Option AV),env=mL d i j (some (.ref i3)) word f x6 way at_ (.str name) again (.str letter) x12/\Dr c d (n+6) st/\f+3<=st.length/\Gk c d s st/\
      ((l=[.ref (f+1),.ref (f+2)]/\aq st f=some []/\aq st (f+1)=some xs/\aq st (f+2)=some ys)∨
       (∃ a,l=[.ref (f+2)]/\aq st f=some [.ref a]/\aq st (f+2)=some ys/\Tq (f+3) st a/\(a=f+1∨f+3<=a)/\a < st.length)∨
       (∃ a b,l=[]/\aq st f=some [.ref a,.ref b]/\Tq (f+3) st a/\Tq (f+3) st b))) ?_ ?_ ?_ _ _ _ ⟨none,none,rfl,D10,by omega,G10,.inl ⟨rfl,MZ,FV,FT⟩⟩
  · exact λ _ _ st _=>bu st
  case refine_3=>
    rintro v r env st ⟨x6,x12,rfl,Dst,hlen,Gst,hI⟩
    rw[WS.2.2.2.2.2.2.2.2.2.2.1]
    rcases hI with⟨el,hf,ha,hb⟩|⟨a1,el,hf,hb,O9,Ow,RQ⟩|⟨_,_,el,_⟩
    · cases el
      refine aB λ K2 wD=>?_
      refine(w8 (N:=f+3) (i:=i) (j:=j) (f:=f) (x3:=some (.ref i3)) (name:=.str name) (letter:=.str letter) (x12:=x12) Dst ha z5 hx (by omega) ⟨by omega,by omega⟩ fw ag (by omega) hlen _).mono ?_ (λ _ _ h=>h)
      rintro iC eK ⟨a',y12,rfl,tq,Ox,RH,Jv,oj,D'⟩
      rw[wD]
      clear wD K2
      have Jz:aq eK f=some []:=c7 (by rw[oj f (by omega) (by omega)];exact ay hf)
      have g9:aq eK (f+2)=some ys:=c7 (by rw[oj (f+2) (by omega) (by omega)];exact ay hb)
      refine app eK [] a' y12 _ _ Jz (by simp) ?_
      have set_other:∀ k,k≠f->∀ zs,aq eK k=some zs->aq (eK.set f (.lst ([]++[.ref a']))) k=some zs:=λ k hk zs h=>c7 (by rw[List.getElem?_set_ne (λ q=>hk q.symm)];exact ay h)
      refine⟨_,y12,rfl,D'.set (by omega) (by omega) (by simp[AO.low,bx,AV.low];omega),by rw[List.length_set];omega,⟨by rw[List.length_set];have:=Gst.len;omega,λ k hk h1 h2=>?_⟩,.inr (.inl ⟨a',rfl,mZ Jz,set_other _ (by omega) _ g9,tq.keep λ k zs hk h=>set_other k (by omega) zs h,by omega,by rw[List.length_set];omega⟩)⟩
      rw[List.getElem?_set_ne (by omega),oj k (by omega) (by omega)];exact Gst.get k hk h1 h2
    · cases el
      refine aB λ K2 wD=>?_
      refine(w8 (N:=f+3) (i:=i) (j:=j) (f:=f) (x3:=some (.ref i3)) (name:=.str name) (letter:=.str letter) (x12:=x12) Dst hb (by omega) hy (by omega) ⟨by omega,by omega⟩ fw ag (by omega) hlen _).mono ?_ (λ _ _ h=>h)
      rintro iC eK ⟨b',y12,rfl,tq,g9,RG,Jv,oj,D'⟩
      rw[wD]
      clear wD K2
      have Jz:aq eK f=some [.ref a1]:=c7 (by rw[oj f (by omega) (by omega)];exact ay hf)
      have KY:Tq (f+3) eK a1:=O9.keep λ k zs hk h=>c7 (by
        have Qx:k < st.length:=(List.getElem?_eq_some_iff.mp (ay h)).1
        rw[oj k Qx (by omega)];exact ay h)
      refine app eK [.ref a1] b' y12 _ _ Jz (by simp) ?_
      have set_other:∀ k,k≠f->∀ zs,aq eK k=some zs->aq (eK.set f (.lst ([.ref a1]++[.ref b']))) k=some zs:=λ k hk zs h=>c7 (by rw[List.getElem?_set_ne (λ q=>hk q.symm)];exact ay h)
      refine⟨_,y12,rfl,D'.set (by omega) (by omega) (by simp[AO.low,bx,AV.low];omega),by rw[List.length_set];omega,⟨by rw[List.length_set];have:=Gst.len;omega,λ k hk h1 h2=>?_⟩,.inr (.inr ⟨a1,b',rfl,mZ Jz,KY.keep λ k zs hk h=>set_other k (by omega) zs h,tq.keep λ k zs hk h=>set_other k (by omega) zs h⟩)⟩
      rw[List.getElem?_set_ne (by omega),oj k (by omega) (by omega)];exact Gst.get k hk h1 h2
    · cases el
  rintro env st ⟨x6,x12,rfl,Dst,hlen,Gst,hI⟩
  rw[hK]
  clear hK K
  rcases hI with⟨el,_⟩|⟨_,el,_⟩|⟨a,b,_,hf,ta,tb⟩
  · cases el
  · cases el
  · have i0:af ai (mv 5) (mc (.int 0)) (mL d i j (some (.ref i3)) word f x6 way at_ (.str name) again (.str letter) x12) st=.ok (.ref a) st:=ax rfl rfl (jW (j:=0) hf rfl)
    have i1:af ai (mv 5) (mc (.int 1)) (mL d i j (some (.ref i3)) word f x6 way at_ (.str name) again (.str letter) x12) st=.ok (.ref b) st:=ax rfl rfl (jW (j:=1) hf rfl)
    rw[WS.2.2.1,dJ (cj (aH i0 (aH i1 rfl)) (by simp))]
    exact⟨f+3,a,b,rfl,ta,tb,Dst.mono (by omega),Gst⟩
def C8:List Str->List AV->List AV->Prop
 | [],[],[]=>True
 | p :: ps,x :: xs,y :: ys=>(Rk p x/\Rk p y/\yp x y=true)/\C8 ps xs ys
 | _,_,_=>False
theorem C8.app:∀ {ps:List Str}{xs ys:List AV}{p:Str}{x y:AV},C8 ps xs ys->Rk p x/\Rk p y/\yp x y=true->C8 (ps++[p]) (xs++[x]) (ys++[y])
 | [],[],[],_,_,_,_,h=>⟨h,trivial⟩
 | _ :: _,_ :: _,_ :: _,_,_,_,h,k=>⟨h.1,h.2.app k⟩
theorem Rk.rw {p:Str}{x:AV}(h:Rk p x)(hp:isNm (.str p)=true):dj x=true/\bP x=p:=by
 obtain⟨e,f,w,d,r,k,g,a,rfl,_,hi⟩:=h.ex
 exact⟨xt hp (hi w (by simp)).1 (hi d (by simp)).1 (hi g (by simp)).1 (hi a (by simp)).1,rfl⟩
theorem C8.facts:∀ {ps:List Str}{xs ys:List AV},C8 ps xs ys->(∀ p∈ps,isNm (.str p)=true/\iN p 8)->xs.all dj=true/\ys.all dj=true/\xs.map bP=ps/\ys.map bP=ps/\((xs.zip ys).all λ p=>yp p.1 p.2)=true/\xs.length=ps.length/\ys.length=ps.length/\(∀ x∈xs,R9 x)/\∀ y∈ys,R9 y
 | [],[],[],_,_=>⟨rfl,rfl,rfl,rfl,rfl,rfl,rfl,(λ _ h=>nomatch h),(λ _ h=>nomatch h)⟩
 | p :: ps,x :: xs,y :: ys,h,hp=>by
  obtain⟨⟨h1,h2,h3⟩,h4⟩:=h
  obtain⟨n1,n2⟩:=hp p (.head _)
  obtain⟨a,b,c,d,e,f,g,k,l⟩:=C8.facts h4 λ q hq=>hp q (.tail _ hq)
  obtain⟨r1,r2⟩:=h1.rw n1
  obtain⟨r3,r4⟩:=h2.rw n1
  refine⟨by simp[r1,a],by simp[r3,b],by simp[r2,c],by simp[r4,d],?_,by simp[f],by simp[g],λ z hz=>?_,λ z hz=>?_⟩
  ·rw[List.zip_cons_cons,List.all_cons,h3,e];rfl
  ·rcases List.mem_cons.mp hz with rfl|hz
   ·exact⟨p,h1,n2⟩
   ·exact k z hz
  ·rcases List.mem_cons.mp hz with rfl|hz
   ·exact⟨p,h2,n2⟩
   ·exact l z hz
theorem mf (s:S)(v:AV)(i:Nat):Pair s v (.ref i):=λ _ _ _ _ _ h=>by cases h.2
theorem qA {s:S}{i:Nat}{xs:List AV}(l:aq s i=some xs)(hl:xs.length<=12)(hx:∀ x∈xs,R9 x):rY s (.ref i) xs:=⟨(nu l).ok.leaf,rfl,l,hl,λ x h=>.inl (hx x h).fd⟩
theorem Be {s:S}{xs:List AV}(hl:xs.length<=12)(hx:∀ x∈xs,R9 x):rY s (.tup xs) xs:=⟨⟨⟨_,rfl⟩,trivial⟩,rfl,rfl,hl,λ x h=>.inl (hx x h).fd⟩
theorem qF {s:S}{v w:AV}{xs ys:List AV}{A B:Ev}{env:En}(e1:A env s=.ok v s)(e2:B env s=.ok w s)(hv:rY s v xs)(hw:rY s w ys)(hp:Pair s v w):cF (cT (gu (aj 2 bG (aa A (aa B ah))))) env s=.ok false s:=by
 refine aJ (x:=true) (bX (Ao (z:=[]) ?_ rfl))
 rw[List.append_nil]
 exact call2 e1 e2 (yS hv hw hp)
theorem Aw:∀ {n:Nat}{v:AV},fd n v->∀ (m:Nat)(s:S),n<=m->∃ d,toD m s v=some d/\d.dep<=n
 | 0,v,h,m,s,_=>fl h m s 0
 | n+1,v,.inl h,m,s,_=>fl h m s (n+1)
 | n+1,v,.inr ⟨xs,e,l,h⟩,m,s,hm=>by
  subst e
  cases m with
  | zero=>omega
  | succ m=>
   obtain⟨q,e1,e2⟩:∃ q,xs.mapM (toD m s)=some q/\dH q<=n:=by
    have h':∀ x∈xs,∃ d,toD m s x=some d/\d.dep<=n:=λ x hx=>Aw (h x hx) m s (by omega)
    clear l h
    induction xs with
    | nil=>exact⟨[],by rw[List.mapM_nil];rfl,by simp[dH]⟩
    | cons a r ih=>
     obtain⟨d,e,hd⟩:=h' a (.head _)
     obtain⟨q,e2,h2⟩:=ih λ x hx=>h' x (.tail _ hx)
     exact⟨d :: q,by rw[List.mapM_cons,e,e2];rfl,by simp only[dH];exact Nat.max_le.mpr ⟨hd,h2⟩⟩
   exact⟨.tup q,by simp only[toD,e1];rfl,by simp only[Dt.dep];omega⟩
where
 fl {v:AV}(h:Hw v) (m:Nat) (s:S) (n:Nat):∃ d,toD m s v=some d/\d.dep<=n:=by
  cases v with
  | aY=>exact⟨.aY,by simp[toD],by simp[Dt.dep]⟩
  | bl b=>exact⟨.bl b,by simp[toD],by simp[Dt.dep]⟩
  | int i=>exact⟨.int i,by simp[toD],by simp[Dt.dep]⟩
  | str t=>exact⟨.str t,by simp[toD],by simp[Dt.dep]⟩
  | _=>exact h.elim
theorem zr {s:S}{i:Nat}{ws:List AV}{m:Ev}{env:En}(e:∀ st,m env st=.ok (.ref i) st) (l:aq s i=some ws)(hw:∀ x∈ws,fd 3 x):gu (af cY m (aF (bz ah))) env s=.ok (.bl (!ws.isEmpty)) s:=by
 have n1:aF (bz ah) env s=.ok (.ref s.length) (s++[.lst []]):=cJ (dy rfl (by simp))
 obtain⟨q,e1,e2,e3⟩:∃ q,ws.mapM (toD 19 (s++[.lst []]))=some q/\dH q<=3/\q.isEmpty=ws.isEmpty:=by
  clear l
  induction ws with
  | nil=>exact⟨[],by rw[List.mapM_nil];rfl,by simp[dH],rfl⟩
  | cons a r ih=>
   obtain⟨d,e,hd⟩:=Aw (hw a (.head _)) 19 (s++[.lst []]) (by decide)
   obtain⟨q,e2,h2,_⟩:=ih λ x hx=>hw x (.tail _ hx)
   exact⟨d :: q,by rw[List.mapM_cons,e,e2];rfl,by simp only[dH];exact Nat.max_le.mpr ⟨hd,h2⟩,rfl⟩
 refine Ao (z:=[.lst []]) ?_ rfl
 unfold af
 rw[e s,ao,n1,ao]
 unfold cY
 have t1:toD 20 (s++[.lst []]) (.ref i)=some (.lst q):=by simp only[toD,aL l,Option.bind_some,e1,Option.map_some]
 have t2:toD 20 (s++[.lst []]) (.ref s.length)=some (.lst []):=by simp only[toD,aE,Option.bind_some,List.mapM_nil];rfl
 have:mK (s++[.lst []]) (.ref i) (.ref s.length)=some ws.isEmpty:=by
  unfold mK
  simp only
  rw[t1,t2]
  dsimp only
  rw[if_pos (by omega),<-e3]
  cases q with
  | nil=>simp[dv]
  | cons a r=>simp[dv]
 rw[this];rfl
theorem yZ {xs ys:List AV}(hx:∀ x∈xs,R9 x)(hy:∀ y∈ys,R9 y):∀ v∈nH xs ys,fd 3 v:=λ v hv=>by
 obtain⟨x,h1,y,h2,rfl⟩:=mU hv
 exact .inr ⟨_,rfl,by simp,λ z hz=>by
  simp only[List.mem_cons,List.not_mem_nil,or_false]at hz
  rcases hz with rfl|rfl
  ·exact(hx _ h1).fd
  ·exact(hy _ h2).fd⟩
theorem BC:∀ {xs ys:List AV},xs.length=ys.length->(nH xs ys).isEmpty=xs.isEmpty
 | [],[],_=>rfl
 | [],_ :: _,h=>by simp at h
 | _ :: _,[],h=>by simp at h
 | _ :: _,_ :: _,_=>rfl
theorem Er {st:S}{v w:AV}{xs ys:List AV}{ps:List Str}(h:C8 ps xs ys)(hp:∀ p∈ps,isNm (.str p)=true/\iN p 8) (hn:dn ps=true)(e1:items v st=some xs)(e2:items w st=some ys):fB st v w=true:=by
 obtain⟨a,b,c,d,e,_⟩:=h.facts hp
 unfold fB
 rw[tu e1 a (by rw[c];exact hn),tu e2 b (by rw[d];exact hn),e1,e2]
 rw[decide_eq_true (show(some xs).map (List.map bP)=(some ys).map (List.map bP) by simp only[Option.map_some,c,d])]
 dsimp only
 rw[e];rfl
theorem iS {l:Lc}{i:Nat}{xs ys:List AV}{env:En}{s:S}(h:aq s i=some (nH xs ys)) (e:mv 3 env s=.ok (.ref i) s) (hl:xs.length=ys.length)(h4:xs.length<=5)(e2:hU l env=[none]) :
  aF (aK l (aV (mv 3)) (gN 0) bE (af ai (mv 0) (mc (.int 0)))) env s=.ok (.ref s.length) (s++[.lst xs])/\aF (aK l (aV (mv 3)) (gN 0) bE (af ai (mv 0) (mc (.int 1)))) env s=.ok (.ref s.length) (s++[.lst ys]):=by
 obtain⟨gs,e1,hg⟩:=uH (m:=mv 3) (env:=env) (show items (.ref i) s=some (nH xs ys) from h) e
 have Of:(nH xs ys).length<=sizeLine:=by
  have:=congrArg List.length (qG hl)
  rw[List.length_map]at this
  exact Bj (by omega)
 constructor
 ·refine cJ ?_
  unfold aK
  rw[e1,ao,if_pos Of,e2,comp_map pF hg (nH xs ys) [] none λ v hv=>?_]
  ·rw[qG hl];rfl
  ·obtain⟨x,_,y,_,rfl⟩:=mU hv
   rfl
 ·refine cJ ?_
  unfold aK
  rw[e1,ao,if_pos Of,e2,comp_map pS hg (nH xs ys) [] none λ v hv=>?_]
  ·rw[vO hl];rfl
  ·obtain⟨x,_,y,_,rfl⟩:=mU hv
   rfl
theorem Dk {c:Eb}{a:Ms}{env:En}{s:S}{N:En->S->Prop}{T:AV->S->Prop}(h:c env s=.ok false s)(k:N env s):(dU c a bH env s).wp N T:=by
 unfold dU;rw[h];exact k
abbrev e9 (x0:AV)(d:Nat)(x2:Option AV)(i3:Nat)(x4:Option AV)(i5 i6:Nat)(x7 x8:Option AV):En:=[some x0,some (.ref d),x2,some (.ref i3),x4,some (.ref i5),some (.ref i6),x7,x8]
theorem DZ {c d n i3 i5 i6:Nat}{s:S}{xs ys:List AV}{x0:AV}{x2 x4 x7 x8:Option AV}(D:Dr c d n s)(hn:n<=100000)(l5:aq s i5=some xs)(l6:aq s i6=some ys)(h5:i5≠c/\i5≠d)(h6:i6≠c/\i6≠d)(z1:1<=xs.length)(z5:xs.length<=5)(hl:ys.length=xs.length)(hx:∀ x∈xs,R9 x)(hy:∀ x∈ys,R9 x)(Tr:AV->S->Prop) :
    ((au (fC 7 8 (aa (aF (dm d_ (eh (mv 5)))) (aa (aF (dm d_ (eh (mv 6)))) ah)))
 (au (dU (cB (af jQ (aj 2 ar (aa (mv 1) (aa (mc (.int 3)) ah))) (mc (.int 0)))) (gH (aj 3 bC (aa (mv 1) (aa (mv 7) (aa (mv 8) ah)))) (gT 2 (aw (gN 7) (aw (gN 8) cZ)))) (dU (cB (af bI (aj 2 ar (aa (mv 1) (aa (mc (.int 2)) ah))) (mc (.int 0)))) (aO 7 (aj 2 a_ (aa (mv 1) (aa (mv 7) ah)))) (aO 8 (aj 2 a_ (aa (mv 1) (aa (mv 8) ah))))))
 (dU (cF (cT (gu (aj 2 bG (aa (mv 7) (aa (mv 8) ah)))))) (aU (mc (.bl false))) bH))) (e9 x0 d x2 i3 x4 i5 i6 x7 x8) s).wp (λ env s'=>∃ y7 y8,env=e9 x0 d x2 i3 x4 i5 i6 y7 y8/\Dr c d (n+30) s'/\Gk c d s s') Tr:=by
  have lc:=D.v8
  have ld:=D.v7
  refine aB λ K hK=>?_
  rw[WS.2.2.2.2.2.2.1,dJ (wU (m:=mv 5) (env:=e9 x0 d x2 i3 x4 i5 i6 x7 x8) l5 rfl),dJ (wU (m:=mv 6) (env:=e9 x0 d x2 i3 x4 i5 i6 x7 x8) (aL l6) rfl)]
  rw[hK]
  clear hK K
  have Jl:∀ x∈xs,fd 2 x:=λ x h=>(hx x h).fd
  have Jk:∀ x∈ys,fd 2 x:=λ x h=>(hy x h).fd
  have D2:=(D.iL (zP.one Jl)).iL (zP.one Jk)
  have G2:Gk c d s (s++[.lst xs]++[.lst ys]):=(Gk.app c d s _).trans (Gk.app c d _ _)
  have f1:aq (s++[.lst xs]++[.lst ys]) s.length=some xs:=aL (aE s xs)
  have f2:aq (s++[.lst xs]++[.lst ys]) (s++[AO.lst xs]).length=some ys:=aE _ ys
  have ef:(s++[AO.lst xs]).length=s.length+1:=by simp
  rw[ef]at f2
  revert D2 G2 f1 f2
  show Dr c d n (s++[.lst xs]++[.lst ys])->Gk c d s (s++[.lst xs]++[.lst ys])->aq (s++[.lst xs]++[.lst ys]) s.length=some xs->aq (s++[.lst xs]++[.lst ys]) (s.length+1)=some ys->(au _ _ (e9 x0 d x2 i3 x4 i5 i6 (some (.ref s.length)) (some (.ref (s++[AO.lst xs]).length))) (s++[.lst xs]++[.lst ys])).wp _ _
  rw[ef]
  generalize s++[.lst xs]++[.lst ys]=s2
  intro D2 G2 f1 f2
  have last:∀ (st:S) (m:Nat) (v w:AV) (ws us:List AV),rY st v ws->rY st w us->Pair st v w->m<=n+30->Dr c d m st->Gk c d s st->(dU (cF (cT (gu (aj 2 bG (aa (mv 7) (aa (mv 8) ah)))))) (aU (mc (.bl false))) bH (e9 x0 d x2 i3 x4 i5 i6 (some v) (some w)) st).wp (λ env s'=>∃ y7 y8,env=e9 x0 d x2 i3 x4 i5 i6 y7 y8/\Dr c d (n+30) s'/\Gk c d s s') Tr:=by
    intro st m v w ws us tv tw hp hm Dm Gm
    exact Dk (qF rfl rfl tv tw hp) ⟨_,_,rfl,Dm.mono hm,Gm⟩
  refine aB λ K hK=>?_
  try walk_at "w"
  refine(bp D2 (by omega) (by omega) (g_ (by omega) (by omega))).mono ?_
  rintro _ s3 ⟨q,rfl,q0,q1,D3,K3⟩
  have f1:=K3.gk.lst (n:=0) (by omega) (by omega) f1
  have f2:=K3.gk.lst (n:=0) (by omega) (by omega) f2
  have G3:=G2.trans K3.gk
  try walk_at "w"
  split
  · refine(rK D3 (by omega) f1 f2 ⟨by omega,by omega⟩ ⟨by omega,by omega⟩ z1 z5 hl hx hy).mono ?_
    rintro _ s4 ⟨N,a,b,rfl,ta,tb,D4,G4⟩
    try walk_at "w"
    rw[hK]
    obtain⟨ws,ta⟩:=ta.tb
    obtain⟨us,tb⟩:=tb.tb
    exact last s4 _ (.ref a) (.ref b) ws us ta tb (mf _ _ _) (by omega) D4 (G3.trans G4)
  · refine(bp D3 (by omega) (by omega) (g_ (by omega) (by omega))).mono ?_
    rintro _ s4 ⟨q2,rfl,NP,Pp,D4,K4⟩
    have f1:=K4.gk.lst (n:=0) (by omega) (by omega) f1
    have f2:=K4.gk.lst (n:=0) (by omega) (by omega) f2
    have G4:=G3.trans K4.gk
    have s4l:=G4.len
    try walk_at "w"
    split
    · refine(mn D4 (by omega) f1 ⟨by omega,by omega⟩ z1 z5 hx).mono ?_
      rintro _ s5 ⟨a,ws,rfl,la,Ct,hw,D5,G5⟩
      rw[hK]
      have f2:=G5.lst (n:=0) (by omega) (by omega) f2
      exact last s5 _ (.ref a) (.ref (s.length+1)) ws ys ⟨(nu la).ok.leaf,rfl,la,Ct,λ x h=>.inl (hw x h)⟩ (qA f2 (by omega) hy) (mf _ _ _) (by omega) D5 (G4.trans G5)
    · refine(mn D4 (by omega) f2 ⟨by omega,by omega⟩ (by omega) (by omega) hy).mono ?_
      rintro _ s5 ⟨a,ws,rfl,la,Ct,hw,D5,G5⟩
      rw[hK]
      have f1:=G5.lst (n:=0) (by omega) (by omega) f1
      exact last s5 _ (.ref s.length) (.ref a) xs ws (qA f1 (by omega) hx) ⟨(nu la).ok.leaf,rfl,la,Ct,λ x h=>.inl (hw x h)⟩ (mf _ _ _) (by omega) D5 (G4.trans G5)
theorem FU (ns:List Int):(iB [.sq (ns.map AV.int)] []).wp λ v s'=>v=.bl true:=by
 unfold iB rM
 refine JS ?_
 refine aB λ K hK=>?_
 try walk_at "w"
 refine(AN ns).mono ?_
 rintro _ s0 ⟨c,d,rfl,D0⟩
 rw[hK]
 clear hK K
 refine aB λ K hK=>?_
 rw[WS.2.2.2.2.2.2.2.2.1,ki]
 refine⟨⟨by decide,by decide⟩,?_⟩
 refine jY (λ l env st=>∃ (x2 x3 x4 x5 x6 x7 x8:Option AV) (z:Nat),l.length+z=3/\env=[some (.sq (ns.map AV.int)),some (.ref d),x2,x3,x4,x5,x6,x7,x8]/\Dr c d (1000 * z) st) ?_ ?_ ?_ _ _ _ ⟨none,none,none,none,none,none,none,0,by simp[gI],rfl,D0⟩
 ·exact λ _ _ st _=>bu st
 case refine_2=>
  rintro env st ⟨x2,x3,x4,x5,x6,x7,x8,z,_,rfl,_⟩
  rw[hK]
  rfl
 rintro v r env st ⟨x2,x3,x4,x5,x6,x7,x8,z,hz,rfl,D1⟩
 clear hK K
 have hz:r.length+1+z=3:=hz
 have lc:=D1.v8
 have ld:=D1.v7
 rw[WS.2.2.2.2.2.2.2.2.2.2.1]
 refine aB λ K hK=>?_
 try walk_at "w"
 refine(bp D1 (by omega) (by omega) (g_ (by omega) (by omega))).mono ?_
 rintro _ s1 ⟨m,rfl,m0,m1,D2,K2⟩
 try walk_at "w"
 refine(uT D2 (by omega) m0 (by omega)).mono ?_
 rintro _ s2 ⟨j,ps,rfl,hj,l2,lp,up,nm,D3,G3⟩
 obtain⟨D4,K4,Rj⟩:=(K2.gk.trans G3).cut D1 D3
 have Kz:=K2.len
 show(need (aq s2 j) _).wp _
 rw[l2,aG,if_pos ⟨by omega,Rj,kM _ _⟩,sd]
 refine⟨Bj (by rw[List.length_map];omega),?_⟩
 revert D4 K4
 generalize s2.take st.length=s4
 intro D4 K4
 refine lb (λ zs acc env s5=>∃ (qs rs:List Str) (xs ys:List AV) (x:Option AV),qs++rs=ps/\zs=rs.map AV.str/\acc=nH xs ys/\C8 qs xs ys/\env=[x,some (.ref d)]/\Dr c d (1000 * z+1+60+60 * qs.length) s5/\Gk c d st s5) ?_ ?_ ?_ _ _ _ _ ⟨[],ps,[],[],none,rfl,rfl,rfl,trivial,rfl,D4,K4.gk⟩
 ·exact λ _ _ _ st _=>bu st
 case refine_3=>
  rintro v' r' acc env s5 ⟨qs,rs,xs,ys,x,e,h,rfl,pr,rfl,D5,G5⟩
  obtain⟨p,rs,rfl,rfl,rfl⟩:∃ p Kn,rs=p :: Kn/\v'=.str p/\r'=Kn.map AV.str:=by
   cases rs with
   | nil=>cases h
   | cons p Kn=>cases h;exact⟨p,Kn,rfl,rfl,rfl⟩
  have hl:qs.length<=5:=by have:=congrArg List.length e;simp at this;omega
  try walk_at "w"
  refine(BU D5 (by omega) (p:=p)).mono ?_
  rintro _ s6 ⟨a,b,rfl,ra,rb,QS,D6,G6⟩
  have f:=pr.facts λ q hq=>nm q (by rw[<-e];exact List.mem_append_left _ hq)
  exact⟨qs++[p],rs,xs++[a],ys++[b],_,by rw[<-e];simp,rfl,(vP a b (by rw[f.2.2.2.2.2.1,f.2.2.2.2.2.2.1])).symm,pr.app ⟨ra,rb,QS⟩,rfl,D6.mono (by simp;omega),G5.trans G6⟩
 rintro acc env s5 ⟨qs,rs,xs,ys,x,e,h,rfl,pr,rfl,D5,G5⟩
 have:rs=[]:=by cases rs with|nil=>rfl|cons=>cases h
 subst this
 rw[List.append_nil]at e
 subst e
 rw[hK]
 clear hK K h
 have fc:=pr.facts nm
 obtain⟨_,_,_,_,_,lx,ly,hx,hy⟩:=fc
 have D6:=D5.iL (zP.one (yZ hx hy))
 have l6:=aE s5 (nH xs ys)
 have G6:=G5.trans (Gk.app c d s5 [.lst (nH xs ys)])
 have gl:=G5.len
 revert D6 l6 G6
 generalize QK:s5++[.lst (nH xs ys)]=s6
 have i3l:s5.length < s6.length:=by rw[<-QK];simp
 generalize s5.length=i3 at gl i3l
 intro D6 l6 G6
 refine aB λ K hK=>?_
 rw[WS.2.2.2.2.2.2.1,dJ (iS l6 rfl (by omega) (by omega) rfl).1,dJ (iS (aL l6) rfl (by omega) (by omega) rfl).2]
 rw[hK]
 clear hK K
 have Jl:∀ x∈xs,fd 2 x:=λ x h=>(hx x h).fd
 have Jk:∀ x∈ys,fd 2 x:=λ x h=>(hy x h).fd
 have D8:=(D6.iL (zP.one Jl)).iL (zP.one Jk)
 have l3:aq (s6++[.lst xs]++[.lst ys]) i3=some (nH xs ys):=aL (aL l6)
 have l5:aq (s6++[.lst xs]++[.lst ys]) s6.length=some xs:=aL (aE _ _)
 have l7:aq (s6++[.lst xs]++[.lst ys]) (s6++[AO.lst xs]).length=some ys:=aE _ _
 have ef:(s6++[AO.lst xs]).length=s6.length+1:=by simp
 rw[ef]at l7
 have n5:s6.length≠c/\s6.length≠d:=⟨by omega,by omega⟩
 have n6:s6.length+1≠c/\s6.length+1≠d:=⟨by omega,by omega⟩
 have n3:i3≠c/\i3≠d:=⟨by omega,by omega⟩
 revert D8 l3 l5 l7
 show Dr c d _ (s6++[.lst xs]++[.lst ys])->aq (s6++[.lst xs]++[.lst ys]) i3=some (nH xs ys)->aq (s6++[.lst xs]++[.lst ys]) s6.length=some xs->aq (s6++[.lst xs]++[.lst ys]) (s6.length+1)=some ys->(au _ _ (e9 (.sq (ns.map AV.int)) d (some v) i3 x4 s6.length (s6++[AO.lst xs]).length x7 x8) (s6++[.lst xs]++[.lst ys])).wp _ _
 rw[ef]
 generalize s6++[.lst xs]++[.lst ys]=s8
 generalize s6.length=i5 at n5 n6
 intro D8 l3 l5 l7
 refine aB λ K hK=>?_
 have t5:=qA l5 (by omega) hx
 have t6:=qA l7 (by omega) hy
 obtain⟨zz,es⟩:=nC t5.mW t6.mW (mf _ _ _)
 rw[Er pr nm up (show items (.ref i5) s8=some xs from l5) (show items (.ref (i5+1)) s8=some ys from l7)]at es
 have et:dm gJ (eh (mv 5)) (e9 (.sq (ns.map AV.int)) d (some v) i3 x4 i5 (i5+1) x7 x8) s8=.ok (.tup xs) s8:=by
  unfold dm eh
  rw[show mv 5 (e9 (.sq (ns.map AV.int)) d (some v) i3 x4 i5 (i5+1) x7 x8) s8=.ok (.ref i5) s8 from rfl,ao]
  show(need (aq s8 i5) λ xs=>R.ok xs s8).bind gJ=_
  rw[l5];rfl
 refine Dk (h_ (qF rfl rfl t5 t6 (mf _ _ _)) (h_ (qF et rfl (Be (by omega) hx) t6 (mf _ _ _)) (aJ (x:=true) (bX (ve (m:=mv 5) (m2:=mv 6) rfl rfl es))))) ?_
 rw[hK]
 clear hK K et es
 have OI:=zr (m:=mv 3) (env:=e9 (.sq (ns.map AV.int)) d (some v) i3 x4 i5 (i5+1) x7 x8) (λ _=>rfl) l3 (yZ hx hy)
 rw[BC (by omega)]at OI
 have ei:af bf (mc (.int 12)) (gp nK (aa (gu (af cY (mv 3) (aF (bz ah)))) ah)) (e9 (.sq (ns.map AV.int)) d (some v) i3 x4 i5 (i5+1) x7 x8) s8=.ok (.int (12 * (if (!xs.isEmpty) then 1 else 0))) s8:=by
  refine ax rfl (lJ OI rfl) (ie (a5 (cA (n:=8) (by decide) (by decide)) (by decide)) (a5 (n:=8) (by split<;>exact cA (by decide) (by decide)) (by decide)))
 rw[WS.2.2.2.2.2.2.2.2.1,ki,dJ ei]
 refine⟨by split<;>exact⟨by decide,by decide⟩,?_⟩
 refine jY (λ l env st=>∃ (y4 y7 y8:Option AV) (w:Nat),l.length+w<=12/\(xs=[]->l=[])/\env=e9 (.sq (ns.map AV.int)) d (some v) i3 y4 i5 (i5+1) y7 y8/\Dr c d (1000 * z+400+40 * w) st/\aq st i5=some xs/\aq st (i5+1)=some ys) ?_ ?_ ?_ _ _ _ ⟨x4,x7,x8,0,?_,?_,rfl,D8.mono (by omega),l5,l7⟩
 ·exact λ _ _ st _=>bu st
 ·rintro env s9 ⟨y4,y7,y8,w,hw,_,rfl,D9,_,_⟩
  exact⟨_,_,_,_,_,_,_,z+1,by omega,rfl,D9.mono (by omega)⟩
 ·rintro v' r' env s9 ⟨y4,y7,y8,w,hw,Qn,rfl,D9,l5,l7⟩
  have hw:r'.length+1+w<=12:=hw
  rw[WS.2.2.2.2.2.2.2.2.2.2.1]
  have z1:1<=xs.length:=by
   cases xs with
   | nil=>cases Qn rfl
   | cons=>simp
  refine(DZ (i3:=i3) (x0:=.sq (ns.map AV.int)) (x2:=some v) (x4:=some v') (x7:=y7) (x8:=y8) D9 (by omega) l5 l7 n5 n6 z1 (by omega) (by omega) hx hy _).mono ?_ (λ _ _ h=>h)
  rintro env o7 ⟨q7,q8,rfl,D10,G10⟩
  exact⟨_,q7,q8,w+1,by omega,(λ h=>by rw[h]at z1;simp at z1),rfl,D10.mono (by omega),G10.lst (n:=0) n5.1 n5.2 l5,G10.lst (n:=0) n6.1 n6.2 l7⟩
 ·simp only[gI,List.length_map,List.length_range]
  split<;>decide
 ·intro h;subst h;rfl
end Ro
def PySem.W.Fast.tw13728597985524760609:Unit:=()
def PySem.W.Fast.tw8586710219252332764:Unit:=()
def PySem.W.Fast.tw1748051916668804513:Unit:=()
def PySem.W.Fast.tw14643441269461694679:Unit:=()
def PySem.W.Fast.tw10293523389399510859:Unit:=()
def PySem.W.Fast.tw8134044895910753874:Unit:=()
def PySem.W.Fast.tw9061864151497365652:Unit:=()
def PySem.W.Fast.tw8066756691272608845:Unit:=()
def PySem.W.Fast.tw12244334838167361336:Unit:=()
def PySem.W.Fast.tw2494247525895332480:Unit:=()
open PySem PySem.W PyProof.Rows
set_option maxRecDepth 100000 in
set_option maxHeartbeats 0 in
theorem PySem.Challenge.cw_royaltree_k75_statements_bent_in_both_holds : PySem.Challenge.rw_royaltree_k75_statements_bent_in_both.Holds := by
 w_on;o_law;k_head;(case hw=>w_witness2)
 k_fill
 refine Ro.walk (l:=PySem.Challenge.rw_royaltree_k75_statements_bent_in_both) Ro.iB 7 ⟨rfl,rfl,by decide,by decide⟩ Ro.FU rfl rfl (λ w h Y=>PySem.W.kIn_of Y) ?F
 case F=>
  intro w mg fa h KX G Jt
  refine' Ro.GP KX G Jt ?_ ?_ ?_ ?_ ?_ ?_ ?_ ?_ ?_ ?_ ?_ ?_ ?_ ?_ ?_ ?_ ?_ ?_ ?_ ?_ ?_ ?_ ?_ ?_ ?_ ?_ ?_ ?_ ?_ ?_ ?_ ?_ ?_ ?_ ?_ ?_ ?_ ?_ ?_ ?_ ?_ ?_ ?_ ?_ ?_ ?_ ?_ ?_
  (k_is)
  (k_is)
  (k_is)
  (k_is)
  (k_is)
  (k_is)
  (k_is)
  (k_is)
  (k_is)
  (k_is)
  (k_is)
  (k_is)
  (k_is)
  (k_is)
  (k_is)
  (refine' Ro.wg (x:="LONGEST_NAME") (v:=.int 8) KX G ?a ?r ?w;(case a=>k_is);(case r=>exact⟨_,rfl⟩);(case w=>exact λ ρ H=>by unfold Mm.VR;rfl))
  (refine' Ro.zU (x:="NOTHING") (vs:=[.int 0,.int 1]) KX G ?a ?l ?v ?s ?w;(case a=>k_is);(case l=>k_is);(case v=>exact .cons ⟨_,rfl⟩ (.cons ⟨_,rfl⟩ (.nil)));(case s=>decide);(case w=>exact λ ρ H=>.cons (by unfold Mm.VR;rfl) (.cons (by unfold Mm.VR;rfl) (.nil))))
  (refine' Ro.zU (x:="ONE") (vs:=[.int 1,.int 1]) KX G ?a ?l ?v ?s ?w;(case a=>k_is);(case l=>k_is);(case v=>exact .cons ⟨_,rfl⟩ (.cons ⟨_,rfl⟩ (.nil)));(case s=>decide);(case w=>exact λ ρ H=>.cons (by unfold Mm.VR;rfl) (.cons (by unfold Mm.VR;rfl) (.nil))))
  (refine' Ro.wg (x:="PLACES") (v:=.int 9) KX G ?a ?r ?w;(case a=>k_is);(case r=>exact⟨_,rfl⟩);(case w=>exact λ ρ H=>by unfold Mm.VR;rfl))
  all_goals (refine' Ro.JZ KX G ?a ?l ?c ?k;(case a=>k_is);(case l=>k_is);(case c=>k_is);(case k=>k_is))
