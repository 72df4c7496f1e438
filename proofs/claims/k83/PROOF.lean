import PyProof.Rows.All
import Wide.All
import OpenK.AllK
import Wide.FinOn
import Lean
import PyProof.EqAt
import PyProof.EqKinds
import PyProof.TupleCall
import PySem.Challenge.RW_deeprests_k83_desk_answers
set_option Elab.async false
set_option linter.all false
set_option maxRecDepth 100000
set_option compiler.extract_closed false
namespace L2
open PySem PySem.Spec PyProof.Rows
abbrev Key:=Sum Int Str
noncomputable def sD:Key→Value→Bool
 | .inl k,v=>Value.isInt k v
 | .inr x,v=>Value.isStrOf x v
noncomputable def KC (w:World):Key→Int
 | .inl k=>hashInt k
 | .inr x=>hashStr w x
theorem fm:∀{k:Key} {v:Value},sD k v=true→(∃i t,k=Sum.inl i∧v=Value.int i t)∨(∃x t,k=Sum.inr x∧v=Value.str x t)
 | .inl i,v,h=>by
  obtain⟨t,e⟩:=Value.isInt_shape (k:=i) (v:=v) h
  exact .inl ⟨i,t,rfl,e⟩
 | .inr x,v,h=>by
  obtain⟨t,e⟩:=Value.isStrOf_shape (x:=x) (v:=v) h
  exact .inr ⟨x,t,rfl,e⟩
theorem DZ (i:Int)(t:Tok):sD (.inl i) (.int i t)=true:=by simp [sD,Value.isInt]
theorem D0 (x:Str)(t:Tok):sD (.inr x) (.str x t)=true:=by simp [sD,Value.isStrOf]
theorem IV (a b:Int):decide ((Sum.inl a:Key)=Sum.inl b)=(a == b):=by
 by_cases e:a=b
 ·subst e;simp
 ·have h:¬(Sum.inl a:Key)=Sum.inl b:=λq=>e (Sum.inl.inj q)
  rw [decide_eq_false h]
  exact (beq_eq_false_iff_ne.mpr e).symm
theorem IY (a b:Str):decide ((Sum.inr a:Key)=Sum.inr b)=decide (a=b):=by
 by_cases e:a=b
 ·subst e;simp
 ·have h:¬(Sum.inr a:Key)=Sum.inr b:=λq=>e (Sum.inr.inj q)
  rw [decide_eq_false h,decide_eq_false e]
theorem IW (a:Int)(b:Str):decide ((Sum.inl a:Key)=Sum.inr b)=false:=decide_eq_false (λq=>nomatch q)
theorem IX (a:Str)(b:Int):decide ((Sum.inr a:Key)=Sum.inl b)=false:=decide_eq_false (λq=>nomatch q)
noncomputable def dZ (prog:Program)(w:World):PySem.KeyKind prog w Key where
 is:=sD
 hash:=KC w
 inj:=λv a b ha hb=>by
  rcases fm ha with⟨i,t,rfl,rfl⟩|⟨x,t,rfl,rfl⟩
  ·rcases fm hb with⟨j,u,rfl,e⟩|⟨y,u,rfl,e⟩
   ·injection e with e1 _;rw [e1]
   ·exact nomatch e
  ·rcases fm hb with⟨j,u,rfl,e⟩|⟨y,u,rfl,e⟩
   ·exact nomatch e
   ·injection e with e1 _;rw [e1]
 byValue:=λk v h=>by
  rcases fm h with⟨i,t,rfl,rfl⟩|⟨x,t,rfl,rfl⟩<;>rfl
 pyHash:=λhv h=>by
  rcases fm hv with⟨i,t,rfl,rfl⟩|⟨x,t,rfl,rfl⟩
  ·exact wpAny_pyHash_int h
  ·exact wpAny_pyHash_str h
 eqBool:=λhu hv h=>by
  rcases fm hu with⟨i,t,rfl,rfl⟩|⟨x,t,rfl,rfl⟩
  ·rcases fm hv with⟨j,u,rfl,rfl⟩|⟨y,u,rfl,rfl⟩
   ·rw [IV] at h;exact wpAny_eqBool_int h
   ·rw [IW] at h;exact SeqAt.EqAt.int_str i t y u _ _ _ _ h
  ·rcases fm hv with⟨j,u,rfl,rfl⟩|⟨y,u,rfl,rfl⟩
   ·rw [IX] at h;exact SeqAt.EqAt.str_int x t j u _ _ _ _ h
   ·rw [IY] at h;exact wpAny_eqBool_str h
 «strs»:=λk x t v h=>by
  rcases fm h with⟨i,u,rfl,e⟩|⟨y,u,rfl,e⟩
  ·exact nomatch e
  ·injection e with e1 _
   subst e1
   cases v<;>rfl
theorem A8 (prog:Program)(w:World)(i:Int)(t:Tok):(dZ prog w).is (.inl i) (.int i t)=true:=DZ i t
theorem oo (prog:Program)(w:World)(x:Str)(t:Tok):(dZ prog w).is (.inr x) (.str x t)=true:=D0 x t
inductive V where
 | cU | bl (b:Bool) | int (i:Int) | str (x:Str) | qm (b:Array UInt8) | yM (b:UInt64) | ref (a:Addr) | ty (n:String)
 deriving DecidableEq
def RelV:V→Value→Prop
 | .cU,u=>u=Value.none
 | .bl b,u=>u=Value.bool b
 | .int i,u=>∃t,u=Value.int i t
 | .str x,u=>∃t,u=Value.str x t
 | .qm b,u=>∃t,u=Value.bytes b t
 | .yM b,u=>∃t,u=Value.float b t
 | .ref a,u=>u=Value.ref a
 | .ty n,u=>u=Value.type n
abbrev Vals:List V→List Value→Prop:=Paired RelV
theorem Vals.length {xs:List V}{us:List Value}(r:Vals xs us):xs.length=us.length:=Paired.length r
theorem Vals.get:∀{xs:List V} {us:List Value} {i:Nat} {x:V},Vals xs us→xs[i]?=some x→∃u,us[i]?=some u∧RelV x u
 | _,_,_,_,.nil,e=>by simp at e
 | _,_,0,_,.cons r _,e=>by simp at e;subst e;exact⟨_,rfl,r⟩
 | _,_,i+1,x,.cons _ t,e=>by
  obtain⟨u,h1,h2⟩:=Vals.get (i:=i) (x:=x) t (by simpa using e)
  exact⟨u,by simpa using h1,h2⟩
theorem Vals.set {x:V}{u:Value}(r:RelV x u):∀{xs:List V} {us:List Value} (i:Nat),Vals xs us→Vals (xs.set i x) (us.set i u)
 | _,_,_,.nil=>.nil
 | _,_,0,.cons _ t=>.cons r t
 | _,_,i+1,.cons q t=>.cons q (Vals.set r i t)
theorem Vals.append:∀{xs ys:List V} {us ws:List Value},Vals xs us→Vals ys ws→Vals (xs++ys) (us++ws)
 | _,_,_,_,.nil,s=>s
 | _,_,_,_,.cons r t,s=>.cons r (Vals.append t s)
theorem Vals.take:∀{xs:List V} {us:List Value} (n:Nat),Vals xs us→Vals (xs.take n) (us.take n)
 | _,_,0,_=>.nil
 | _,_,_+1,.nil=>.nil
 | _,_,n+1,.cons r t=>.cons r (Vals.take n t)
theorem Vals.drop:∀{xs:List V} {us:List Value} (n:Nat),Vals xs us→Vals (xs.drop n) (us.drop n)
 | _,_,0,r=>r
 | _,_,_+1,.nil=>.nil
 | _,_,n+1,.cons _ t=>Vals.drop n t
def iV:Option V→Option Value→Prop
 | some v,some u=>RelV v u
 | none,none=>True
 | _,_=>False
def KV {κ:Type}:List (κ×V)→List (κ×Value)→Prop:=Paired λ(p:κ×V) (q:κ×Value)=>p.1=q.1∧RelV p.2 q.2
noncomputable def kV:Key→V
 | .inl i=>.int i
 | .inr x=>.str x
inductive HO where
 | lst (xs:List V)
 | tup (xs:List V)
 | dK (kvs:List (Key×V)) | dT (kvs:List (List Key×V))
 | set (S:Int→Bool) (n:Nat)
 | ins (C dx:Addr) (fs:List (Str×V))
 | own (x:Addr)
 | xd (fs:List (Str×V))
 | met (f x:Addr)
 | GA (lo hi:Int)
 | mZ (o:Obj) (u:HO)
 | xm (ps:Array Value)
 | ext (φ:Heap→Prop)
abbrev Hp:=Addr→Option HO
noncomputable def upd (H:Hp)(a:Addr)(o:HO):Hp:=λb=>if b=a then some o else H b
theorem aS {H:Hp}{a:Addr}{o:HO}:upd H a o a=some o:=by unfold upd;rw [if_pos rfl]
theorem aI {H:Hp}{a b:Addr}{o:HO}(h:b≠a):upd H a o b=H b:=by unfold upd;rw [if_neg h]
theorem JV {H:Hp}{a b:Addr}{o u:HO}(h:H a=some o)(h':H b=some u)(d:o≠u):a≠b:=by
 intro e;subst e;rw [h] at h';exact d (Option.some.inj h')
theorem cf {H:Hp}{a b:Addr}{o:HO}(h:H a=some o)(h':H b=none):a≠b:=by
 intro e;subst e;rw [h] at h';cases h'
section
variable (P:Program)(w:World)
def cT (H:Hp)(h:Heap)(a:Addr):HO→Prop
  | .lst xs=>xs.length≤sizeLine∧∃(its:List Value) (n:Nat),Vals xs its∧h.get? a=some { cls:=.type "list",data:=.seq its.toArray n }
  | .tup xs=>xs.length≤sizeLine∧∃its:List Value,Vals xs its∧IsTup h a its.toArray
  | .dK kvs=>kvs.length≤sizeLine∧(a == sysModules)=false∧∃vs,KV kvs vs∧h.DictOf (dZ P w) a vs
  | .dT kvs=>kvs.length≤sizeLine∧(a == sysModules)=false∧∃xs:List (List Key×Addr×Value),
      Paired (λ(p:List Key×V) (q:List Key×Addr×Value)=>p.1=q.1∧H q.2.1=some (.tup (p.1.map kV))∧RelV p.2 q.2.2) kvs xs ∧
      ∃o es ep,h.get? a=some o∧o.ExactDict∧o.data = .dict es ep∧es.toList=xs.map (entryOfKey (tupleKind (dZ P w)))∧(xs.map (·.1)).Nodup
  | .set S n=>h.SetOf (intKind P w) a S n
  | .ins C dx fs=>H dx=some (.own a)∧fs.length≤1000∧dx≠a∧h.get? a=some (PySem.W.instObj C dx) ∧
      ∃mA,h.Ns1 dx mA∧(∀f,iV (fs.lookup f) (mA f))∧PySem.Within mA (fs.map (·.1))
  | .own _=>∃o,h.get? a=some o
  | .xd fs=>∃mA,h.Ns1 a mA∧∀f,iV (fs.lookup f) (mA f)
  | .GA lo hi=>∃t u v,h.get? a=some { cls:=.type "range",data:=.fields #[.int lo t,.int hi u,.int 1 v] }
  | .mZ o u=>h.get? a=some o∧cT H h a u
  | .xm ps=>h.get? a=some { cls:=.none,data:=.fields ps }
  | .met f x=>h.get? a=some (PySem.W.methodObj (.ref f) (.ref x))
  | .ext φ=>φ h∧(∃o,h.get? a=some o)∧∀h1 h2:Heap,φ h1→(∀o,h1.get? a=some o→h2.get? a=some o)→φ h2
def e7 (H:Hp)(h:Heap):Prop:=∀a o,H a=some o→cT P w H h a o
end
section
variable {P:Program}{w:World}{H H':Hp}{h h':Heap}{a:Addr}{o:HO}
theorem cT.lt (x:cT P w H h a o):a<h.objs.size:=by
 cases o with
 | lst xs=>obtain⟨_,_,_,_,e⟩:=x;exact Heap.lt_size e
 | tup xs=>obtain⟨_,_,_,p⟩:=x;exact p.lt
 | dK kvs=>obtain⟨_,_,_,_,o,_,_,e,_⟩:=x;exact Heap.lt_size e
 | dT kvs=>obtain⟨_,_,_,_,o,_,_,e,_⟩:=x;exact Heap.lt_size e
 | set S n=>obtain⟨o,_,_,_,e,_⟩:=x;exact Heap.lt_size e
 | ins C dx fs=>obtain⟨_,_,_,e,_⟩:=x;exact Heap.lt_size e
 | own y=>obtain⟨_,e⟩:=x;exact Heap.lt_size e
 | xd fs=>obtain⟨_,⟨_,_,_,e,_⟩,_⟩:=x;exact Heap.lt_size e
 | GA lo hi=>obtain⟨_,_,_,e⟩:=x;exact Heap.lt_size e
 | mZ ob u=>obtain⟨e,_⟩:=x;exact Heap.lt_size e
 | xm ps=>exact Heap.lt_size (show h.get? a=some _ from x)
 | met f y=>exact Heap.lt_size (show h.get? a=some _ from x)
 | ext φ=>obtain⟨_,⟨_,e⟩,_⟩:=x;exact Heap.lt_size e
theorem Paired.Fv {α β:Type}{F G:α→β→Prop}:∀{l₁:List α} {l₂:List β},Paired F l₁ l₂→(∀a b,F a b→G a b)→Paired G l₁ l₂
 | _,_,.nil,_=>.nil
 | _,_,.cons r t,f=>.cons (f _ _ r) (Paired.Fv t f)
theorem cT.gB (x:cT P w H h a o)(k:∀b u,(b=a∨H b=some (.own a))→h.get? b=some u→h'.get? b=some u)
    (ho:∀b,H b=some (.own a)→H' b=some (.own a)) (ht:∀b xs,H b=some (.tup xs)→H' b=some (.tup xs)):cT P w H' h' a o:=by
  induction o with
  | lst xs=>obtain⟨z,its,n,r,e⟩:=x;exact⟨z,its,n,r,k _ _ (.inl rfl) e⟩
  | tup xs=>obtain⟨z,its,r,ob,e,c⟩:=x;exact⟨z,its,r,ob,k _ _ (.inl rfl) e,c⟩
  | dK kvs=>obtain⟨z,y,vs,r,ob,es,ep,e,c⟩:=x;exact⟨z,y,vs,r,ob,es,ep,k _ _ (.inl rfl) e,c⟩
  | dT kvs=>
    obtain⟨z,y,xs,r,ob,es,ep,e,c⟩:=x
    exact⟨z,y,xs,Paired.Fv r λp q z=>⟨z.1,ht _ _ z.2.1,z.2.2⟩,ob,es,ep,k _ _ (.inl rfl) e,c⟩
  | set S n=>obtain⟨ob,es,ep,t,e,c⟩:=x;exact⟨ob,es,ep,t,k _ _ (.inl rfl) e,c⟩
  | ins C dx fs=>
    obtain⟨d,z,ne,e,mA,⟨od,es,ep,e2,c⟩,r⟩:=x
    exact⟨ho _ d,z,ne,k _ _ (.inl rfl) e,mA,⟨od,es,ep,k _ _ (.inr d) e2,c⟩,r⟩
  | own y=>obtain⟨ob,e⟩:=x;exact⟨ob,k _ _ (.inl rfl) e⟩
  | xd fs=>obtain⟨mA,⟨od,es,ep,e,c⟩,r⟩:=x;exact⟨mA,⟨od,es,ep,k _ _ (.inl rfl) e,c⟩,r⟩
  | GA lo hi=>obtain⟨t,u,v,e⟩:=x;exact⟨t,u,v,k _ _ (.inl rfl) e⟩
  | mZ ob u ih=>obtain⟨e,q⟩:=x;exact⟨k _ _ (.inl rfl) e,ih q⟩
  | xm ps=>
    have e:h.get? a=some { cls:=.none,data:=.fields ps }:=x
    show h'.get? a=some { cls:=.none,data:=.fields ps }
    exact k a _ (.inl rfl) e
  | met f y=>
    have e:h.get? a=some (PySem.W.methodObj (.ref f) (.ref y)):=x
    show h'.get? a=some (PySem.W.methodObj (.ref f) (.ref y))
    exact k a _ (.inl rfl) e
  | ext φ=>obtain⟨p,⟨o,e⟩,st⟩:=x;exact⟨st _ _ p λo q=>k _ _ (.inl rfl) q,⟨o,k _ _ (.inl rfl) e⟩,st⟩
theorem e7.lt (x:e7 P w H h)(e:H a=some o):a<h.objs.size:=(x a o e).lt
theorem e7.fresh (x:e7 P w H h)(e:h.objs.size≤a):H a=none:=by
 cases q:H a with
 | none=>rfl
 | some u=>exact absurd (Nat.lt_of_lt_of_le (x.lt q) e) (Nat.lt_irrefl _)
theorem e7.kept (x:e7 P w H h)(k:∀b u,h.get? b=some u→h'.get? b=some u):e7 P w H h':=λa o e=>
 (x a o e).gB (λb u _ q=>k b u q) (λ_ q=>q) λ_ _ q=>q
theorem e7.laid (x:e7 P w H h)(k:∀b u,h.get? b=some u→h'.get? b=some u)(hp:h.objs.size≤a)(new:cT P w (upd H a o) h' a o):e7 P w (upd H a o) h':=λb u e=>by
 have hn:=x.fresh hp
 by_cases hb:b=a
 ·subst hb;rw [aS] at e;cases e;exact new
 ·rw [aI hb] at e
  exact (x b u e).gB (λc v _ q=>k c v q) (λc q=>by rw [aI (cf q hn)];exact q) λc xs q=>by rw [aI (cf q hn)];exact q
end
def Rd (H:Hp)(a:Addr)(u:HO):Prop:=H a=some u∨∃o,H a=some (.mZ o u)
theorem Rd.ok {P:Program}{w:World}{H:Hp}{h:Heap}{a:Addr}{u:HO}(r:Rd H a u)(x:e7 P w H h):cT P w H h a u:=by
 rcases r with r|⟨o,r⟩
 ·exact x a u r
 ·obtain⟨_,q⟩:=x a _ r
  exact q
def Dp:Option HO→Prop
 | some (.lst _)=>True
 | some (.dK _)=>True
 | some (.dT _)=>True
 | some (.set _ _)=>True
 | some (.ins _ _ _)=>True
 | some (.ext _)=>True
 | _=>False
section
variable {P:Program}{w:World}{H:Hp}{h h':Heap}{x e:Addr}{o':HO}
theorem e7.write (ok:e7 P w H h)(mu:Dp (H x))(he:e=x∨H e=some (.own x))(k:∀b u,b≠e→h.get? b=some u→h'.get? b=some u)(heo:∃u,h'.get? e=some u)
    (new:cT P w (upd H x o') h' x o'):e7 P w (upd H x o') h':=λb u q=>by
  have nown:∀c y,H c=some (.own y)→c≠x:=λc y r z=>by subst z;rw [r] at mu;exact mu
  have ntup:∀c xs,H c=some (.tup xs)→c≠x:=λc xs r z=>by subst z;rw [r] at mu;exact mu
  by_cases hb:b=x
  · subst hb;rw [aS] at q;cases q;exact new
  · rw [aI hb] at q
    by_cases hbe:b=e
    · have q':H b=some (.own x):=by
        rcases he with z|z
        · exact absurd (hbe.trans z) hb
        · rw [hbe];exact z
      rw [q] at q';cases q'
      obtain⟨v,hv⟩:=heo
      exact⟨v,by rw [hbe];exact hv⟩
    · refine (ok b u q).gB (λc v hc r=>k c v ?_ r) (λc r=>by rw [aI (nown c b r)];exact r) λc xs r=>by rw [aI (ntup c xs r)];exact r
      rcases hc with rfl|hc
      · exact hbe
      · rintro rfl
        rcases he with z|z
        · exact nown c b hc z
        · rw [hc] at z;cases z;exact hb rfl
end
structure Un (fs ex:List Addr)(H H':Hp)(h h':Heap):Prop where
 keep:∀b o,h.get? b=some o→H b=none→b∉fs→b∉ex→h'.get? b=some o
 slot:∀b o,h.get? b=some o→H b=none→b∈fs→b∉ex→∃sl,h'.get? b=some { o with slots:=sl }
 free:∀b o,h.get? b=some o→H b=none→b∉ex→H' b=none
 there:∀b o,h.get? b=some o→b∉ex→∃o',h'.get? b=some o'
 jF:∀b xs,H b=some (.tup xs)→H' b=some (.tup xs)
 i3:∀b o u,H b=some (.mZ o u)→H' b=some (.mZ o u)
 jE:∀b ps,H b=some (.xm ps)→∃more,H' b=some (.xm (ps++more))
section
variable {fs fs' ex ex':List Addr}{H H1 H2:Hp}{h h1 h2 h':Heap}{a x e:Addr}{o:HO}
theorem Un.any (u:Un fs ex H H1 h h1){b:Addr}{ob:Obj}(q:h.get? b=some ob)(n:H b=none)(hx:b∉ex):∃sl,h1.get? b=some { ob with slots:=sl }:=by
 by_cases hb:b∈fs
 ·exact u.slot b ob q n hb hx
 ·exact⟨ob.slots,u.keep b ob q n hb hx⟩
theorem Un.kept (k:∀b u,h.get? b=some u→h'.get? b=some u):Un fs ex H H h h':=
 ⟨λb ob q _ _ _=>k b ob q,λb ob q _ _ _=>⟨ob.slots,k b ob q⟩,λ_ _ _ n _=>n,λb ob q _=>⟨ob,k b ob q⟩,λ_ _ q=>q,λ_ _ _ q=>q,λ_ ps q=>⟨#[],by rw [q];simp⟩⟩
theorem Un.refl:Un fs ex H H h h:=Un.kept λ_ _ q=>q
theorem Un.laid (k:∀b u,h.get? b=some u→h'.get? b=some u)(hp:h.objs.size≤a)(hn:H a=none):Un fs ex H (upd H a o) h h' where
 keep:=λb u q _ _ _=>k b u q
 slot:=λb u q _ _ _=>⟨u.slots,k b u q⟩
 free:=λb u q n _=>by rw [aI (Nat.ne_of_lt (Nat.lt_of_lt_of_le (Heap.lt_size q) hp))];exact n
 there:=λb u q _=>⟨u,k b u q⟩
 jF:=λb xs q=>by rw [aI (cf q hn)];exact q
 i3:=λb u xs q=>by rw [aI (cf q hn)];exact q
 jE:=λb ps q=>⟨#[],by rw [aI (cf q hn),q];simp⟩
theorem Un.write (mu:Dp (H x))(he:e=x∨H e=some (.own x))(k:∀b u,b≠e→h.get? b=some u→h'.get? b=some u)(heo:∃u,h'.get? e=some u):Un fs ex H (upd H x o) h h':=by
 have hx:∀b,H b=none→b≠x:=λb n z=>by subst z;rw [n] at mu;exact mu
 have hb:∀b,H b=none→b≠e:=λb n z=>by
  subst z
  rcases he with r|r
  ·exact hx b n r
  ·rw [n] at r;cases r
 have hm:∀b u,H b=some u→¬Dp (some u)→b≠x:=λb u q nm z=>by subst z;rw [q] at mu;exact nm mu
 refine⟨λb u q n _ _=>k b u (hb b n) q,λb u q n _ _=>⟨u.slots,k b u (hb b n) q⟩,λb u q n _=>by rw [aI (hx b n)];exact n,λb u q _=>?_,
  λb xs q=>by rw [aI (hm b _ q λz=>z)];exact q,λb u xs q=>by rw [aI (hm b _ q λz=>z)];exact q,λb ps q=>⟨#[],by rw [aI (hm b _ q λz=>z),q];simp⟩⟩
 by_cases hbe:b=e
 ·subst hbe;exact heo
 ·exact⟨u,k b u hbe q⟩
end
noncomputable def GS (h:Heap)(H:Hp):List Addr:=(List.range h.objs.size).filter λa=>(H a).isSome
noncomputable def pL (h:Heap)(H:Hp):Heap:=PySem.W.hideAll h (GS h H)
theorem DV (h:Heap)(H:Hp):(pL h H).objs.size=h.objs.size:=PySem.W.hideAll_size _ _
theorem Fl {h:Heap}{H:Hp}{b:Addr}{o:Obj}(e:h.get? b=some o)(n:H b=none):(pL h H).get? b=some o:=
 PySem.W.hideAll_get _ e λhm=>by
  have q:(H b).isSome=true:=(List.mem_filter.mp hm).2
  rw [n] at q;simp at q
theorem Ho {h:Heap}{H:Hp}{b:Addr}{o:Obj}(e:(pL h H).get? b=some o):h.get? b=some o∧H b=none:=by
 have e':h.get? b=some o:=PySem.W.of_hideAll (GS h H) e
 refine⟨e',?_⟩
 cases q:H b with
 | none=>rfl
 | some x=>
  have hm:b∈GS h H:=List.mem_filter.mpr ⟨List.mem_range.mpr (Heap.lt_size e'),by simp [q]⟩
  have z:(pL h H).get? b=none:=PySem.W.hideAll_none (GS h H) hm
  rw [z] at e;cases e
noncomputable def G1 (g h:Heap)(L:Addr):List (Addr×Obj):=(List.range h.objs.size).filterMap λa=>if a=L∨(g.get? a).isSome=true then none else (h.get? a).map λo=>(a,o)
noncomputable def rest (g h:Heap)(L d:Addr):List (Addr×Obj):=(G1 g h L).filter λp=>decide (p.1≠d)
open PySem PySem.Spec PyProof.Rows
structure Mod (K:PySem.W.Frag)(mg:Str→Option Value)(base:Heap):Prop where
 vg:K.In base
 glob:base.Ns mainGlobals mg
 blt:∃mb,base.Ns builtinsNs mb∧∀x:Str,x≠"__name__"→mb x=bootBuiltins x
 nolimit:base.NoLimit
structure Cx where
 prog:Program
 w:World
 K:PySem.W.Frag
 mg:Str→Option Value
 base:Heap
 A:Around
 N:List Str
 s₀:Shared
 H₀:Hp
 env:Env
 outer:List Env
 stack:List Env
 ex:List Addr
 fn:Str→Bool
 calm:Bool
 pn:List (Addr×Obj)
 xe:Value→Shared→Prop
noncomputable def dR (l:List Env):List Addr:=l.filterMap (·.frame)
noncomputable abbrev Cx.fs (X:Cx):List Addr:=dR X.outer
def Gn (sc:Scope)(x:Str):Prop:=sc.names.lookup x=some .local∨sc.names.lookup x=some .cell∨sc.names.lookup x=some .free
def Loc (sc:Scope)(x:Str):Prop:=sc.names.lookup x=some .local∨sc.names.lookup x=some .cell
def Look (env:Env)(h:Heap)(m:Str→Option Value)(x:Str)(u:Value):Prop:=
 (env.kindOf x=some .local∧m x=some u)∨((env.kindOf x=some .cell∨env.kindOf x=some .free)∧∃c,env.cells.lookup x=some c∧h.IsCell c (some u))
structure Cx.Ok (X:Cx):Prop where
 mod:Mod X.K X.mg X.base
 kind:X.env.scope.kind = .function
 glob:X.env.globals=mainGlobals
 blt:X.env.builtins=builtinsNs
 above:X.s₀.heap.objs.size≤X.env.locals
 inj:∀x y c,X.env.cells.lookup x=some c→X.env.cells.lookup y=some c→x=y
 has:∀x,(X.env.kindOf x=some .cell∨X.env.kindOf x=some .free)→∃c,X.env.cells.lookup x=some c
 tL:∀x c,X.fn x=true→X.env.cells.lookup x=some c→X.s₀.heap.objs.size≤c
 hd:X.calm=true→X.A.handled=none
 frames:X.A.frames=some X.stack
 vD:X.stack=X.outer∨(X.stack=X.env::X.outer∧X.env.frame=some X.env.locals)
 yL:∀b∈X.ex,b≠X.env.locals∧∀x c,X.env.cells.lookup x=some c→c≠b
 bs:∀b o,X.base.get? b=some o→X.s₀.heap.get? b=some o∧X.H₀ b=none
 nM:X.base.objs.size≤X.s₀.heap.objs.size
 oq:∀b o,X.base.get? b=some o→b∉X.ex
 pF:∀b∈X.ex,b∉X.fs
 i4:X.s₀.heap.FunFrames X.base X.outer
 qo:∀b∈X.fs,X.H₀ b=none
structure Inv (X:Cx)(pins:List (Addr×Obj))(σ:List (Option V))(H:Hp)(s:Shared):Prop where
 ok:X.Ok
 os:s.os=X.s₀.os
 bare:AllBare s.gens
 base:Un X.fs X.ex X.H₀ H X.s₀.heap s.heap
 loc:∃m,s.heap.Ns X.env.locals m∧∀(i:Nat) (x:Str) (v:V),X.N[i]?=some x→σ[i]?=some (some v)→Gn X.env.scope x→∃u,RelV v u∧Look X.env s.heap m x u
 cell:∀x c,X.env.cells.lookup x=some c→∃v,s.heap.IsCell c v
 free:H X.env.locals=none
 gb:∀x c,X.env.cells.lookup x=some c→H c=none
 pin:∀p∈X.pn++pins,s.heap.get? p.1=some p.2∧H p.1=none∧p.1≠X.env.locals∧p.1∉X.fs∧∀v,p.2.data≠.cell v
 bb:e7 X.prog X.w H s.heap
 len:σ.length=X.N.length
section
variable {X:Cx}{pins:List (Addr×Obj)}{σ:List (Option V)}{H H':Hp}{s:Shared}{h':Heap}
theorem Cx.Ok.KH (ok:X.Ok){b:Addr}{o:Obj}(e:X.base.get? b=some o):b∉X.fs:=λhb=>by
 have:=(ok.i4.mem hb).1
 rw [e] at this;cases this
theorem Inv.bs (I:Inv X pins σ H s):∀b o,X.base.get? b=some o→s.heap.get? b=some o∧H b=none:=λb o e=>
 ⟨I.base.keep b o (I.ok.bs b o e).1 (I.ok.bs b o e).2 (I.ok.KH e) (I.ok.oq b o e),I.base.free b o (I.ok.bs b o e).1 (I.ok.bs b o e).2 (I.ok.oq b o e)⟩
theorem Inv.bk (I:Inv X pins σ H s):∀b o,X.base.get? b=some o→s.heap.get? b=some o:=λb o e=>(I.bs b o e).1
theorem Inv.mod (I:Inv X pins σ H s):Mod X.K X.mg X.base:=I.ok.mod
theorem Inv.fA (I:Inv X pins σ H s):X.K.In s.heap:=I.ok.mod.vg.keeps I.bk
theorem Inv.lt (I:Inv X pins σ H s):X.env.locals<s.heap.objs.size:=let ⟨_,hn,_⟩:=I.loc;hn.lt
theorem Inv.sz (I:Inv X pins σ H s):X.s₀.heap.objs.size≤s.heap.objs.size:=Nat.le_trans I.ok.above (Nat.le_of_lt I.lt)
theorem Inv.Fy (I:Inv X pins σ H s){a:Addr}(h:s.heap.objs.size≤a):a∉X.fs:=λhb=>by
 obtain⟨_,o,ho,_⟩:=I.ok.i4.mem hb
 exact absurd (Nat.lt_of_lt_of_le (Heap.lt_size ho) (Nat.le_trans I.sz h)) (Nat.lt_irrefl _)
theorem Inv.qX (I:Inv X pins σ H s):∀x c,X.env.cells.lookup x=some c→c≠X.env.locals:=λx c e z=>by
 obtain⟨v,o,ho,hd⟩:=I.cell x c e
 obtain⟨m,⟨o',es,ep,ho',hd',_⟩,_⟩:=I.loc
 rw [z,ho'] at ho;cases ho;rw [hd'] at hd;cases hd
theorem Inv.i4 (I:Inv X pins σ H s):s.heap.FunFrames X.base X.outer:=by
 have all:∀(l:List Env),(∀b∈dR l,b∈X.fs)→X.s₀.heap.FunFrames X.base l→s.heap.FunFrames X.base l:=by
  intro l
  induction l with
  | nil=>intro _ _;trivial
  | cons env r ih=>
   intro hs hl
   obtain⟨hk,⟨L,o,hf,hn,ho,hd⟩,hr⟩:=hl
   have hL:L∈X.fs:=hs L (by unfold dR;rw [List.filterMap_cons,hf];exact List.mem_cons_self)
   obtain⟨sl,e⟩:=I.base.slot L o ho (I.ok.qo L hL) hL λz=>I.ok.pF L z hL
   exact⟨hk,⟨L,_,hf,hn,e,hd⟩,ih (λb hb=>hs b (by unfold dR;rw [List.filterMap_cons,hf];exact List.mem_cons_of_mem _ hb)) hr⟩
 exact all X.outer (λ_ hb=>hb) I.ok.i4
theorem Inv.stack (I:Inv X pins σ H s):s.heap.FunFrames X.base X.stack:=by
 rcases I.ok.vD with e|⟨e,hf⟩
 ·rw [e];exact I.i4
 ·rw [e]
  obtain⟨m,hn,_⟩:=I.loc
  refine .cons (by rw [I.ok.kind];decide) hf hn ?_ I.i4
  exact Heap.get?_none_of_le (Nat.le_trans I.ok.nM I.ok.above)
theorem Inv.nE (I:Inv X pins σ H s):∀b∈dR X.stack,b∈X.env.locals::X.fs:=λb hb=>by
 rcases I.ok.vD with e|⟨e,hf⟩
 ·rw [e] at hb;exact List.mem_cons_of_mem _ hb
 ·rw [e] at hb
  unfold dR at hb
  rw [List.filterMap_cons,hf] at hb
  exact hb
theorem Inv.pb (I:Inv X pins σ H s):∀b∈dR X.stack,H b=none:=λb hb=>by
 rcases List.mem_cons.mp (I.nE b hb) with e|hb
 ·rw [e];exact I.free
 ·obtain⟨_,o,ho,_⟩:=I.ok.i4.mem hb
  exact I.base.free b o ho (I.ok.qo b hb) λz=>I.ok.pF b z hb
theorem Inv.step {g':Array GenState}{t':Nat}{d':Drawn}{ch:List Addr}(I:Inv X pins σ H s)
    (hch:∀b∈ch,(b∈X.ex∨X.s₀.heap.objs.size≤b)∧b≠X.env.locals∧(∀x c,X.env.cells.lookup x=some c→c≠b)∧∀p∈X.pn++pins,p.1≠b)
    (keep:∀b o,b≠X.env.locals→b∉X.fs→b∉ch→s.heap.get? b=some o→H b=none→h'.get? b=some o)
    (slot:∀b o,b≠X.env.locals→b∈X.fs→b∉ch→s.heap.get? b=some o→H b=none→∃sl,h'.get? b=some { o with slots:=sl }) (free:∀b o,b∉ch→s.heap.get? b=some o→H b=none→H' b=none)
    (there:∀b o,b∉ch→s.heap.get? b=some o→∃o',h'.get? b=some o')
    (jF:∀b xs,H b=some (.tup xs)→H' b=some (.tup xs)) (i3:∀b o u,H b=some (.mZ o u)→H' b=some (.mZ o u)) (jE:∀b ps,H b=some (.xm ps)→∃more,H' b=some (.xm (ps++more)))
    (ns:∀m,s.heap.Ns X.env.locals m→h'.Ns X.env.locals m) (bb:e7 X.prog X.w H' h') (hg:AllBare g') :
    Inv X pins σ H' { s with heap:=h',gens:=g',drawn:=d',toks:=t' }:=by
  have neL:∀b o,X.s₀.heap.get? b=some o→b≠X.env.locals:=λb o e=>Nat.ne_of_lt (Nat.lt_of_lt_of_le (Heap.lt_size e) I.ok.above)
  have neC:∀b o,X.s₀.heap.get? b=some o→b∉X.ex→b∉ch:=λb o e hx hb=>by
    rcases (hch b hb).1 with z|z
    · exact hx z
    · exact absurd (Nat.lt_of_lt_of_le (Heap.lt_size e) z) (Nat.lt_irrefl _)
  have cellK:∀x c,X.env.cells.lookup x=some c→∀v,s.heap.IsCell c v→h'.IsCell c v:=λx c e v ⟨o,ho,hd⟩=>by
    have nch:c∉ch:=λz=>(hch c z).2.2.1 x c e rfl
    by_cases hc:c∈X.fs
    · obtain⟨sl,q⟩:=slot c o (I.qX x c e) hc nch ho (I.gb x c e)
      exact⟨_,q,hd⟩
    · exact⟨o,keep c o (I.qX x c e) hc nch ho (I.gb x c e),hd⟩
  refine⟨I.ok,I.os,hg,⟨λb o e n hb hx=>?_,λb o e n hb hx=>?_,λb o e n hx=>?_,λb o e hx=>?_,λb xs e=>jF b xs (I.base.jF b xs e),λb o xs e=>i3 b o xs (I.base.i3 b o xs e),λb ps e=>?_⟩,?_,λx c e=>?_,?_,λx c e=>?_,λp hp=>?_,bb,I.len⟩
  · exact keep b o (neL b o e) hb (neC b o e hx) (I.base.keep b o e n hb hx) (I.base.free b o e n hx)
  · obtain⟨sl,e1⟩:=I.base.slot b o e n hb hx
    obtain⟨sl',e2⟩:=slot b _ (neL b o e) hb (neC b o e hx) e1 (I.base.free b o e n hx)
    exact⟨sl',e2⟩
  · obtain⟨o',e1⟩:=I.base.there b o e hx
    exact free b o' (neC b o e hx) e1 (I.base.free b o e n hx)
  · obtain⟨o',e1⟩:=I.base.there b o e hx
    exact there b o' (neC b o e hx) e1
  · obtain⟨m1,e1⟩:=I.base.jE b ps e
    obtain⟨m2,e2⟩:=jE b _ e1
    exact⟨m1++m2,by rw [e2,Array.append_assoc]⟩
  · obtain⟨m,hn,hl⟩:=I.loc
    refine⟨m,ns m hn,λi x v e1 e2 e3=>?_⟩
    obtain⟨u,r,l⟩:=hl i x v e1 e2 e3
    refine⟨u,r,?_⟩
    rcases l with l|⟨k,c,e,z⟩
    · exact .inl l
    · exact .inr ⟨k,c,e,cellK x c e _ z⟩
  · obtain⟨v,z⟩:=I.cell x c e
    exact⟨v,cellK x c e v z⟩
  · obtain⟨m,⟨o,_,_,ho,_⟩,_⟩:=I.loc
    exact free _ o (λz=>(hch _ z).2.1 rfl) ho I.free
  · obtain⟨v,o,ho,hd⟩:=I.cell x c e
    exact free c o (λz=>(hch c z).2.2.1 x c e rfl) ho (I.gb x c e)
  · obtain⟨e,n,ne,nf,d⟩:=I.pin p hp
    have nch:p.1∉ch:=λz=>(hch p.1 z).2.2.2 p hp rfl
    exact⟨keep p.1 p.2 ne nf nch e n,free p.1 p.2 nch e n,ne,nf,d⟩
theorem Inv.un {t':Nat}(I:Inv X pins σ H s)(u:Un X.fs [] H H' s.heap h')(bb:e7 X.prog X.w H' h'):Inv X pins σ H' { s with heap:=h',toks:=t' }:=by
 obtain⟨m,⟨o,es,ep,ho,r⟩,_⟩:=id I.loc
 obtain⟨sl,hL⟩:=u.any ho I.free (by simp)
 exact I.step (g':=s.gens) (d':=s.drawn) (ch:=[]) (λ_ z=>nomatch z) (λb o _ hb _ e n=>u.keep b o e n hb (by simp)) (λb o _ hb _ e n=>u.slot b o e n hb (by simp)) (λb o _ e n=>u.free b o e n (by simp)) (λb o _ e=>u.there b o e (by simp)) u.jF u.i3 u.jE (λm' hm=>by
  obtain⟨o',es',ep',ho',r'⟩:=hm
  rw [ho] at ho';cases ho'
  exact⟨_,es',ep',hL,r'⟩) bb I.bare
theorem Inv.call {g':Array GenState}{t':Nat}{d':Drawn}{ch:List Addr}(I:Inv X pins σ H s)(u:Un (dR X.stack) ch H H' s.heap h')(bb:e7 X.prog X.w H' h')(hg:AllBare g')
    (hch:∀b∈ch,(b∈X.ex∨X.s₀.heap.objs.size≤b)∧b≠X.env.locals∧(∀x c,X.env.cells.lookup x=some c→c≠b)∧∀p∈X.pn++pins,p.1≠b) :
    Inv X pins σ H' { s with heap:=h',gens:=g',drawn:=d',toks:=t' }:=by
  obtain⟨m,⟨o,es,ep,ho,r⟩,_⟩:=id I.loc
  obtain⟨sl,hL⟩:=u.any ho I.free λz=>(hch _ z).2.1 rfl
  exact I.step (ch:=ch) hch (λb o hL hb hc e n=>u.keep b o e n (λz=>(List.mem_cons.mp (I.nE b z)).elim hL hb) hc) (λb o _ _ hc e n=>u.any e n hc) (λb o hc e n=>u.free b o e n hc) (λb o hc e=>u.there b o e hc) u.jF u.i3 u.jE (λm' hm=>by
    obtain⟨o',es',ep',ho',r'⟩:=hm
    rw [ho] at ho';cases ho'
    exact⟨_,es',ep',hL,r'⟩) bb hg
theorem Inv.turned {t':Nat}{it:Addr}(I:Inv X pins σ H s)(k:∀b o,b≠it→s.heap.get? b=some o→h'.get? b=some o)(hn:H it=none)(hL:it≠X.env.locals)
    (h1:it∈X.ex∨X.s₀.heap.objs.size≤it) (h2:∀x c,X.env.cells.lookup x=some c→c≠it) (h3:∀p∈X.pn++pins,p.1≠it):Inv X pins σ H { s with heap:=h',toks:=t' }:=by
  have nit:∀b u,H b=some u→b≠it:=λb u e z=>by rw [z,hn] at e;cases e
  refine I.step (g':=s.gens) (d':=s.drawn) (ch:=[it]) (λb hb=>?_) (λb o _ _ hc e _=>k b o (λz=>hc (by simp [z])) e) (λb o _ _ hc e _=>⟨o.slots,k b o (λz=>hc (by simp [z])) e⟩) (λ_ _ _ _ n=>n)
    (λb o hc e=>⟨o,k b o (λz=>hc (by simp [z])) e⟩) (λ_ _ e=>e) (λ_ _ _ e=>e) (λb ps e=>⟨#[],by rw [e];simp⟩) (λm hm=>?_) (λb u e=>?_) I.bare
  · have e:b=it:=by simpa using hb
    subst e
    exact⟨h1,hL,h2,h3⟩
  · obtain⟨o,es,ep,ho,r⟩:=hm
    exact⟨o,es,ep,k _ o (Ne.symm hL) ho,r⟩
  · refine (I.bb b u e).gB (λc v hc q=>k c v ?_ q) (λ_ q=>q) λ_ _ q=>q
    rcases hc with z|z
    · rw [z];exact nit b u e
    · exact nit c _ z
theorem Inv.tok (I:Inv X pins σ H s)(t:Nat):Inv X pins σ H { s with toks:=t }:=I.un (h':=s.heap) (t':=t) Un.refl I.bb
theorem Inv.kept {t':Nat}(I:Inv X pins σ H s)(k:∀b u,s.heap.get? b=some u→h'.get? b=some u):Inv X pins σ H { s with heap:=h',toks:=t' }:=I.un (Un.kept k) (I.bb.kept k)
theorem Inv.laid {a:Addr}{o:HO}{t':Nat}(I:Inv X pins σ H s)(k:∀b u,s.heap.get? b=some u→h'.get? b=some u)(hp:s.heap.objs.size≤a)(new:cT X.prog X.w (upd H a o) h' a o) :
    Inv X pins σ (upd H a o) { s with heap:=h',toks:=t' }:=I.un (Un.laid k hp (I.bb.fresh hp)) (I.bb.laid k hp new)
theorem Inv.write {x e:Addr}{o:HO}{t':Nat}(I:Inv X pins σ H s)(mu:Dp (H x))(he:e=x∨H e=some (.own x))(k:∀b u,b≠e→s.heap.get? b=some u→h'.get? b=some u)(heo:∃u,h'.get? e=some u)
    (new:cT X.prog X.w (upd H x o) h' x o):Inv X pins σ (upd H x o) { s with heap:=h',toks:=t' }:=I.un (Un.write mu he k heo) (I.bb.write mu he k heo new)
theorem Inv.j4 {pins':List (Addr×Obj)}(I:Inv X pins σ H s)(h:∀p∈pins',s.heap.get? p.1=some p.2∧H p.1=none∧p.1≠X.env.locals∧p.1∉X.fs∧∀v,p.2.data≠.cell v):Inv X pins' σ H s:=
 ⟨I.ok,I.os,I.bare,I.base,I.loc,I.cell,I.free,I.gb,λp hp=>(List.mem_append.mp hp).elim (λz=>I.pin p (List.mem_append_left _ z)) (h p),I.bb,I.len⟩
theorem ui {N:List Str}(hN:N.Nodup){i j:Nat}{x:Str}(a:N[i]?=some x)(b:N[j]?=some x):i=j:=by
 obtain⟨h1,e1⟩:=List.getElem?_eq_some_iff.mp a
 obtain⟨h2,e2⟩:=List.getElem?_eq_some_iff.mp b
 exact (List.getElem_inj hN).mp (e1.trans e2.symm)
theorem nZ {M:Model}{A:Around}{E:Value→Shared→Prop}{i:Nat}{x:Str}{v:V}{u:Value}{Q:Unit→Shared→Prop}(I:Inv X pins σ H s)(hN:X.N.Nodup)(hi:X.N[i]?=some x)(hx:Loc X.env.scope x)(r:RelV v u)
    (h:∀s',Inv X pins (σ.set i (some v)) H s'→(∃a,Heap.SameBut a s.heap s'.heap∧(a=X.env.locals∨X.env.cells.lookup x=some a))→Q () s') (hf:X.fn x=true∨X.env.scope.names.lookup x=some .local:=by first | exact .inl rfl | exact .inr rfl | assumption):wpAny M A (storeName X.env x u) Q E s:=by
  obtain⟨m,hn,hl⟩:=id I.loc
  have hcls:(X.env.scope.kind == .class || (X.env.scope.kind == .module && X.env.locals != X.env.globals))=false:=by rw [I.ok.kind];rfl
  have hiσ:i<σ.length:=by rw [I.len];exact (List.getElem?_eq_some_iff.mp hi).1
  have qX:=I.qX
  have tracked:∀{a:Addr} {h':Heap},(∃o,s.heap.get? a=some o∧H a=none)→Heap.SameBut a s.heap h'→e7 X.prog X.w H h':=λ{a h'} ha hs b ob e=>by
    obtain⟨_,_,hfree⟩:=ha
    refine (I.bb b ob e).gB (λc w' hc q=>(hs.2 c ?_).trans q) (λ_ q=>q) λ_ _ q=>q
    rintro rfl
    rcases hc with rfl|hc
    · rw [hfree] at e;cases e
    · rw [hfree] at hc;cases hc
  rcases hx with hk|hk
  · refine wpAny_storeName_local hk hn (λh' hn' hs=>?_) hcls
    obtain⟨oL,_,_,hoL,_⟩:=id hn
    refine h _ ⟨I.ok,I.os,I.bare,⟨λb o e n hb hx=>?_,λb o e n hb hx=>?_,I.base.free,λb o e hx=>?_,I.base.jF,I.base.i3,I.base.jE⟩,⟨_,hn',λj y v' e1 e2 e3=>?_⟩,λy c e=>?_,I.free,I.gb,λp hp=>?_,tracked ⟨oL,hoL,I.free⟩ hs,by simpa using I.len⟩ ⟨_,hs,.inl rfl⟩
    · exact (hs.2 b (Nat.ne_of_lt (Nat.lt_of_lt_of_le (Heap.lt_size e) I.ok.above))).trans (I.base.keep b o e n hb hx)
    · obtain⟨sl,e1⟩:=I.base.slot b o e n hb hx
      exact⟨sl,(hs.2 b (Nat.ne_of_lt (Nat.lt_of_lt_of_le (Heap.lt_size e) I.ok.above))).trans e1⟩
    · obtain⟨o',e1⟩:=I.base.there b o e hx
      exact⟨o',(hs.2 b (Nat.ne_of_lt (Nat.lt_of_lt_of_le (Heap.lt_size e) I.ok.above))).trans e1⟩
    · by_cases hj:j=i
      · subst hj
        rw [hi] at e1;cases e1
        rw [List.getElem?_set_self hiσ] at e2
        cases e2
        exact⟨u,r,.inl ⟨hk,by simp⟩⟩
      · rw [List.getElem?_set_ne (Ne.symm hj)] at e2
        obtain⟨u',r',q⟩:=hl j y v' e1 e2 e3
        refine⟨u',r',?_⟩
        rcases q with⟨k,e⟩|⟨k,c,e,z⟩
        · refine .inl ⟨k,?_⟩
          have:y≠x:=λe=>hj (ui hN e1 (e▸hi))
          simp [this,e]
        · exact .inr ⟨k,c,e,z.sameBut hs (qX y c e)⟩
    · obtain⟨w',z⟩:=I.cell y c e
      exact⟨w',z.sameBut hs (qX y c e)⟩
    · obtain⟨e,n,ne,nf,d⟩:=I.pin p hp
      exact⟨(hs.2 p.1 ne).trans e,n,ne,nf,d⟩
  · have hfn:X.fn x=true:=by
      rcases hf with z|z
      · exact z
      · rw [z] at hk;cases hk
    obtain⟨c,hc⟩:=I.ok.has x (.inl hk)
    obtain⟨w',z⟩:=I.cell x c hc
    refine wpAny_storeName_cell I.ok.kind hk hc z (λh' hc' hs=>?_)
    obtain⟨oc,hoc,hocd⟩:=id z
    refine h { s with heap:=h' } ⟨I.ok,I.os,I.bare,⟨λb o e n hb hx=>?_,λb o e n hb hx=>?_,I.base.free,λb o e hx=>?_,I.base.jF,I.base.i3,I.base.jE⟩,⟨m,hn.sameBut hs (Ne.symm (qX x c hc)),λj y v' e1 e2 e3=>?_⟩,λy c' e=>?_,I.free,I.gb,λp hp=>?_,tracked ⟨oc,hoc,I.gb x c hc⟩ hs,by simpa using I.len⟩ ⟨c,hs,.inr hc⟩
    · exact (hs.2 b (Nat.ne_of_lt (Nat.lt_of_lt_of_le (Heap.lt_size e) (I.ok.tL x c hfn hc)))).trans (I.base.keep b o e n hb hx)
    · obtain⟨sl,e1⟩:=I.base.slot b o e n hb hx
      exact⟨sl,(hs.2 b (Nat.ne_of_lt (Nat.lt_of_lt_of_le (Heap.lt_size e) (I.ok.tL x c hfn hc)))).trans e1⟩
    · obtain⟨o',e1⟩:=I.base.there b o e hx
      exact⟨o',(hs.2 b (Nat.ne_of_lt (Nat.lt_of_lt_of_le (Heap.lt_size e) (I.ok.tL x c hfn hc)))).trans e1⟩
    · by_cases hj:j=i
      · subst hj
        rw [hi] at e1;cases e1
        rw [List.getElem?_set_self hiσ] at e2
        cases e2
        exact⟨u,r,.inr ⟨.inl hk,c,hc,hc'⟩⟩
      · rw [List.getElem?_set_ne (Ne.symm hj)] at e2
        obtain⟨u',r',q⟩:=hl j y v' e1 e2 e3
        refine⟨u',r',?_⟩
        rcases q with q|⟨k,c',e,z'⟩
        · exact .inl q
        · refine .inr ⟨k,c',e,z'.sameBut hs ?_⟩
          rintro rfl
          exact hj (ui hN e1 (I.ok.inj _ _ _ e hc▸hi))
    · by_cases hcc:c'=c
      · subst hcc;exact⟨_,hc'⟩
      · obtain⟨w2,z2⟩:=I.cell y c' e
        exact⟨w2,z2.sameBut hs hcc⟩
    · obtain⟨e,n,ne,nf,d⟩:=I.pin p hp
      refine⟨(hs.2 p.1 ?_).trans e,n,ne,nf,d⟩
      intro q
      rw [q,hoc] at e
      have q':oc=p.2:=Option.some.inj e
      exact d w' (by rw [←q'];exact hocd)
theorem nF {M:Model}{A:Around}{E:Value→Shared→Prop}{i:Nat}{x:Str}{v:V}{u:Value}{Q:Unit→Shared→Prop}(I:Inv X pins σ H s)(hN:X.N.Nodup)(hi:X.N[i]?=some x)(hx:Loc X.env.scope x)(r:RelV v u)
    (h:∀s',Inv X pins (σ.set i (some v)) H s'→Q () s') (hf:X.fn x=true∨X.env.scope.names.lookup x=some .local:=by first | exact .inl rfl | exact .inr rfl | assumption):wpAny M A (storeName X.env x u) Q E s:=
  nZ I hN hi hx r (λs' I' _=>h s' I') hf
theorem Inv.ya {s':Shared}{ch:List Addr}(I:Inv X pins σ H s)(ho:s'.os=s.os)(u:Un (dR X.stack) ch H H' s.heap s'.heap)(bb:e7 X.prog X.w H' s'.heap)(hg:AllBare s'.gens)
    (hch:∀b∈ch,(b∈X.ex∨X.s₀.heap.objs.size≤b)∧b≠X.env.locals∧(∀x c,X.env.cells.lookup x=some c→c≠b)∧∀p∈X.pn++pins,p.1≠b):Inv X pins σ H' s':=by
  obtain⟨h',g',d',t',o'⟩:=s'
  have e:o'=s.os:=ho
  subst e
  exact I.call (g':=g') (t':=t') (d':=d') u bb hg hch
end
abbrev XK:=Value→Option Addr→Hp→Prop
abbrev St:=List (Option V)
abbrev VK:=V→Hp→Prop
abbrev TE:=St→Hp→VK→Prop
abbrev TT:=St→Hp→(Bool→Hp→Prop)→Prop
abbrev TA:=St→Hp→(List V→Hp→Prop)→Prop
structure Ends where
 nx:St→Hp→Prop
 rt:VK
 bk:St→Hp→Prop:=λ_ _=>False
 ct:St→Hp→Prop:=λ_ _=>False
abbrev TS:=Ends→St→Hp→Prop
def EP (X:Cx)(pins:List (Addr×Obj))(σ:St)(Q:VK)(u:Value)(s':Shared):Prop:=∃v H',Inv X pins σ H' s'∧RelV v u∧Q v H'
def TP (X:Cx)(pins:List (Addr×Obj))(σ:St)(Q:Bool→Hp→Prop)(b:Bool)(s':Shared):Prop:=∃H',Inv X pins σ H' s'∧Q b H'
def AP (X:Cx)(pins:List (Addr×Obj))(σ:St)(Q:List V→Hp→Prop)(us:List Value)(s':Shared):Prop:=∃vs H',Inv X pins σ H' s'∧Vals vs us∧Q vs H'
def SP (X:Cx)(pins:List (Addr×Obj))(D:Ends)(f:Flow)(s':Shared):Prop:=
 match f with
 | .next=>∃σ' H',Inv X pins σ' H' s'∧D.nx σ' H'
 | .brk=>∃σ' H',Inv X pins σ' H' s'∧D.bk σ' H'
 | .cont=>∃σ' H',Inv X pins σ' H' s'∧D.ct σ' H'
 | .ret u=>∃v σ' H',Inv X pins σ' H' s'∧RelV v u∧D.rt v H'
def PE (X:Cx)(e:Expr)(t:TE):Prop:=
 ∀(pins:List (Addr×Obj)) (s:Shared) (σ:St) (H:Hp) (Q:VK),Inv X pins σ H s→t σ H Q→wpAny (model X.prog X.w) X.A (eval e X.env) (EP X pins σ Q) X.xe s
def PT (X:Cx)(e:Expr)(t:TT):Prop:=
 ∀(pins:List (Addr×Obj)) (s:Shared) (σ:St) (H:Hp) (Q:Bool→Hp→Prop),Inv X pins σ H s→t σ H Q→wpAny (model X.prog X.w) X.A (isTrue e X.env (eval e X.env)) (TP X pins σ Q) X.xe s
def PW (X:Cx)(e:Expr)(t:TT):Prop:=
 ∀(whole:Sem Value) (pins:List (Addr×Obj)) (s:Shared) (σ:St) (H:Hp) (Q:Bool→Hp→Prop),Inv X pins σ H s→t σ H Q→wpAny (model X.prog X.w) X.A (isTrue e X.env whole) (TP X pins σ Q) X.xe s
theorem PW.pt {X:Cx}{e:Expr}{t:TT}(h:PW X e t):PT X e t:=h _
def PA (X:Cx)(es:List Expr)(t:TA):Prop:=
 ∀(pos:Pos) (pins:List (Addr×Obj)) (s:Shared) (σ:St) (H:Hp) (Q:List V→Hp→Prop),Inv X pins σ H s→t σ H Q→wpAny (model X.prog X.w) X.A (spliced (backTo pos (starEach es X.env))) (AP X pins σ Q) X.xe s
def PS (X:Cx)(st:Stmt)(t:TS):Prop:=
 ∀(pins:List (Addr×Obj)) (s:Shared) (σ:St) (H:Hp) (D:Ends),Inv X pins σ H s→t D σ H→wpAny (model X.prog X.w) X.A (exec st X.env) (SP X pins D) X.xe s
def mi (X:Cx)(st:List Stmt)(t:TS):Prop:=
 ∀(pins:List (Addr×Obj)) (s:Shared) (σ:St) (H:Hp) (D:Ends),Inv X pins σ H s→t D σ H→wpAny (model X.prog X.w) X.A (execs st X.env) (SP X pins D) X.xe s
theorem bU {α:Type}{t:Sem α}{Q Q':α→Shared→Prop}{M:Model}{A:Around}{E:Value→Shared→Prop}{s:Shared}(h:wpAny M A t Q E s)(hQ:∀a s,Q a s→Q' a s):wpAny M A t Q' E s:=wpAny_mono h hQ λ_ _ x=>x
open PySem PySem.Spec PyProof.Rows
section
variable {X:Cx}
def jD (i:Nat):TE:=λσ H Q=>∃v,σ[i]?=some (some v)∧Q v H
def tC (v:V):TE:=λ_ H Q=>Q v H
theorem Jp {i:Nat}{x:Str}{pos:Pos}(hN:X.N[i]?=some x)(hv:Gn X.env.scope x)(hd:(x == ("__debug__":Str))=false:=by decide)(hcd:(x == ("__classdict__":Str))=false:=by decide):PE X (.Name x pos) (jD i):=by
 intro pins s σ H Q I h
 obtain⟨v,e,h⟩:=h
 obtain⟨m,hn,hl⟩:=I.loc
 obtain⟨u,r,l⟩:=hl i x v hN e hv
 have fin:EP X pins σ Q u s:=⟨v,H,I,r,h⟩
 rcases l with⟨hk,hm⟩|⟨hk,c,hc,hcell⟩
 ·exact wpAny_Name (wpAny_loadName_local I.ok.kind hk hn hm fin) hd
 ·rcases hk with hk|hk
  ·exact wpAny_Name (wpAny_loadName_cell I.ok.kind hk hc hcell fin) hd
  ·exact wpAny_Name (wpAny_loadName_free I.ok.kind hk hc hcell fin hcd) hd
theorem ag {i j pos}:PE X (.Constant (.int i) j pos) (tC (.int i)):=λ_ _ _ H _ I h=>wpAny_Constant_int ⟨.int i,H,I.tok _,⟨_,rfl⟩,h⟩
theorem mz {b j pos}:PE X (.Constant (.bool b) j pos) (tC (.bl b)):=λ_ _ _ H _ I h=>Constant_bool ⟨.bl b,H,I,rfl,h⟩
theorem jN {j pos}:PE X (.Constant .none j pos) (tC .cU):=λ_ _ _ H _ I h=>Constant_none ⟨.cU,H,I,rfl,h⟩
theorem bH {x j pos}:PE X (.Constant (.str x) j pos) (tC (.str x)):=λ_ _ _ H _ I h=>Calls.Constant_str ⟨.str x,H,I.tok _,⟨_,rfl⟩,h⟩
def Gl (X:Cx)(x:Str):Prop:=X.env.kindOf x=some .globalImplicit
theorem jc {E:Value→Shared→Prop}{pins:List (Addr×Obj)}{s:Shared}{σ:St}{H:Hp}{x:Str}{u:Value}{pos:Pos}{Q:Value→Shared→Prop}(I:Inv X pins σ H s)(hg:Gl X x)(hm:X.mg x=some u)(h:Q u s)
    (hd:(x == ("__debug__":Str))=false:=by decide):wpAny (model X.prog X.w) X.A (eval (.Name x pos) X.env) Q E s:=
  Calls.Name_function_global I.ok.kind hg (Calls.loadGlobal_global (by rw [I.ok.glob];exact I.mod.glob.keeps I.bk) hm h) hd
theorem kq {E:Value→Shared→Prop}{pins:List (Addr×Obj)}{s:Shared}{σ:St}{H:Hp}{x:Str}{u:Value}{pos:Pos}{Q:Value→Shared→Prop}(I:Inv X pins σ H s)(hg:Gl X x)(hm:X.mg x=none)(hv:bootBuiltins x=some u)(h:Q u s)
    (hn:x≠"__name__":=by decide) (hd:(x == ("__debug__":Str))=false:=by decide):wpAny (model X.prog X.w) X.A (eval (.Name x pos) X.env) Q E s:=by
  obtain⟨mb,h1,h2⟩:=I.mod.blt
  exact Calls.Name_function_global I.ok.kind hg (Calls.loadGlobal_builtin (by rw [I.ok.glob];exact I.mod.glob.keeps I.bk) hm (by rw [I.ok.blt];exact h1.keeps I.bk) ((h2 x hn).trans hv) h) hd
theorem ee {x:Str}{v:V}{u:Value}{pos:Pos}(hg:Gl X x)(hm:X.mg x=some u)(r:RelV v u)(hd:(x == ("__debug__":Str))=false:=by decide):PE X (.Name x pos) (tC v):=
 λ_ _ _ H _ I h=>jc I hg hm ⟨v,H,I,r,h⟩ hd
theorem oV {x:Str}{v:V}{u:Value}{pos:Pos}(hg:Gl X x)(hm:X.mg x=none)(hv:bootBuiltins x=some u)(r:RelV v u)(hn:x≠"__name__":=by decide)(hd:(x == ("__debug__":Str))=false:=by decide):PE X (.Name x pos) (tC v):=
 λ_ _ _ H _ I h=>kq I hg hm hv ⟨v,H,I,r,h⟩ hn hd
variable {a b:Expr}{ta tb:TE}{pos:Pos}
def PC (X:Cx)(op:CmpOp)(a b:Expr)(t:TE):Prop:=
 ∀(pins:List (Addr×Obj)) (s:Shared) (σ:St) (H:Hp) (Q:VK),Inv X pins σ H s→t σ H Q →
  wpAny (model X.prog X.w) X.A (eval a X.env) (λv s₁=>wpAny (model X.prog X.w) X.A (eval b X.env) (λu s₂=>wpAny (model X.prog X.w) X.A (compareOp op v u) (EP X pins σ Q) X.xe s₂) X.xe s₁) X.xe s
def tB (t:TE):TT:=λσ H Q=>t σ H λx H1=>∃c,x = .bl c∧Q c H1
theorem vt {op:CmpOp}{t:TE}(h:PC X op a b t)(h1:behindInMarks op b=false:=by first | exact nobehind _ (by decide) (by decide) | rfl):PT X (.Compare a [op] [b] pos) (tB t):=by
 intro pins s σ H Q I hw
 refine wpAny_isTrue_Compare1 (bU (h pins s σ H _ I hw) λv s1 h1=>bU h1 λu s2 h2=>bU h2 λc s3 ⟨x,H1,I1,r1,q1⟩=>?_) h1
 obtain⟨d,rfl,q⟩:=q1
 cases r1
 exact wpAny_truthy_bool ⟨H1,I1,q⟩
theorem gx {e:Expr}{t:TE}(h:PE X e t)(he:∀whole,isTrue e X.env whole=(do let v ←whole;standAt e.pos;holding [v] (truthy v)):=by intro _;rfl):PT X e (tB t):=by
 intro pins s σ H Q I hw
 refine isTrue_plain (bU (h pins s σ H _ I hw) λv s1 ⟨x,H1,I1,r1,q1⟩=>?_) (he _)
 obtain⟨d,rfl,q⟩:=q1
 cases r1
 exact wpAny_truthy_bool ⟨H1,I1,q⟩
variable {tA tB':TT}{rest:List Expr}
def FU (t u:TT):TT:=λσ H Q=>t σ H λc H1=>if c=true then u σ H1 Q else Q false H1
def JC (t u:TT):TT:=λσ H Q=>t σ H λc H1=>if c=true then Q true H1 else u σ H1 Q
def Ga (t:TT):TT:=λσ H Q=>t σ H λc H1=>Q (!c) H1
theorem wb (ha:PT X a tA):PW X (.BoolOp .And [a] pos) tA:=by
 intro wh pins s σ H Q I h
 refine isTrue_and (bU (ha pins s σ H Q I h) λc s1 e=>?_)
 cases c with
 | true=>exact isTrue_and_nil e
 | false=>exact e
theorem jO (ha:PT X a tA):PW X (.BoolOp .Or [a] pos) tA:=by
 intro wh pins s σ H Q I h
 refine isTrue_or (bU (ha pins s σ H Q I h) λc s1 e=>?_)
 cases c with
 | false=>exact isTrue_or_nil e
 | true=>exact e
theorem vv (ha:PT X a tA)(hb:PW X (.BoolOp .And (b::rest) pos) tB'):PW X (.BoolOp .And (a::b::rest) pos) (FU tA tB'):=by
 intro wh pins s σ H Q I h
 refine isTrue_and (bU (ha pins s σ H _ I h) λc s1 ⟨H1,I1,q1⟩=>?_)
 cases c with
 | true=>exact hb wh pins s1 σ H1 Q I1 q1
 | false=>exact⟨H1,I1,q1⟩
theorem jh (ha:PT X a tA)(hb:PW X (.BoolOp .Or (b::rest) pos) tB'):PW X (.BoolOp .Or (a::b::rest) pos) (JC tA tB'):=by
 intro wh pins s σ H Q I h
 refine isTrue_or (bU (ha pins s σ H _ I h) λc s1 ⟨H1,I1,q1⟩=>?_)
 cases c with
 | true=>exact⟨H1,I1,q1⟩
 | false=>exact hb wh pins s1 σ H1 Q I1 q1
theorem i7 (ha:PT X a tA):PT X (.UnaryOp .Not a pos) (Ga tA):=by
 intro pins s σ H Q I h
 exact isTrue_not (ha pins s σ H (λc H1=>Q (!c) H1) I h)
def Dg (ta:TE):TE:=λσ H Q=>ta σ H λx H1=>∃c,x = .bl c∧Q (.bl (!c)) H1
theorem Ei (ha:PE X a ta):PE X (.UnaryOp .Not a pos) (Dg ta):=by
 intro pins s σ H Q I h
 refine UnaryOp_ (bU (ha pins s σ H _ I h) λv s1 ⟨x,H1,I1,r1,q1⟩=>?_)
 obtain⟨c,rfl,q1⟩:=q1
 cases r1
 exact not_of (wpAny_truthy_bool ⟨.bl (!c),H1,I1,rfl,q1⟩)
def JB (t:TT)(ta tb:TE):TE:=λσ H Q=>t σ H λc H1=>if c=true then ta σ H1 Q else tb σ H1 Q
theorem zE {c:Expr}(hc:PT X c tA)(ha:PE X a ta)(hb:PE X b tb):PE X (.IfExp c a b pos) (JB tA ta tb):=by
 intro pins s σ H Q I h
 refine wpAny_IfExp (bU (hc pins s σ H _ I h) λd s1 ⟨H1,I1,q1⟩=>?_)
 cases d with
 | true=>exact ha pins s1 σ H1 Q I1 q1
 | false=>exact hb pins s1 σ H1 Q I1 q1
end
open PySem PySem.Spec PyProof.Rows
def az (K:PySem.W.Frag)(H:Hp)(a:Addr)(xs:List V):Prop:=
 Rd H a (.lst xs) ∨
  ∃(o:Obj) (its:Array Value) (n:Nat),K.lookup a=some o∧o.cls = .type "list"∧o.dict=none∧o.data = .seq its n∧its.size≤sizeLine∧Vals xs its.toList
def dC (K:PySem.W.Frag)(H:Hp)(a:Addr)(xs:List V):Prop:=
 Rd H a (.tup xs) ∨
  ∃(o:Obj) (its:Array Value) (n:Nat),K.lookup a=some o∧o.cls = .type "tuple"∧o.data = .seq its n∧its.size≤sizeLine∧Vals xs its.toList
noncomputable def Kr:Value→Option V
 | .none=>some .cU
 | .bool b=>some (.bl b)
 | .int i _=>some (.int i)
 | .str x _=>some (.str x)
 | .bytes b _=>some (.qm b)
 | .float b _=>some (.yM b)
 | .ref a=>some (.ref a)
 | .type n=>some (.ty n)
 | _=>none
theorem RelV.abs {x:V}{u:Value}(r:RelV x u):Kr u=some x:=by
 cases x with
 | cU=>cases r;rfl
 | bl _=>cases r;rfl
 | int _=>obtain⟨t,rfl⟩:=r;rfl
 | str _=>obtain⟨t,rfl⟩:=r;rfl
 | qm _=>obtain⟨t,rfl⟩:=r;rfl
 | yM _=>obtain⟨t,rfl⟩:=r;rfl
 | ref _=>cases r;rfl
 | ty _=>cases r;rfl
theorem RelV.inj {x y:V}{u:Value}(r:RelV x u)(q:RelV y u):x=y:=Option.some.inj (r.abs.symm.trans q.abs)
theorem Vals.inj:∀{xs ys:List V} {us:List Value},Vals xs us→Vals ys us→xs=ys
 | _,_,_,.nil,.nil=>rfl
 | _,_,_,.cons r t,.cons r' t'=>by rw [r.inj r',Vals.inj t t']
section
variable {X:Cx}{pins:List (Addr×Obj)}{σ:St}{H:Hp}{s:Shared}{a:Addr}{xs ys:List V}
theorem az.of {K:PySem.W.Frag}(h:H a=some (.lst xs)):az K H a xs:=.inl (.inl h)
theorem dC.of {K:PySem.W.Frag}(h:H a=some (.tup xs)):dC K H a xs:=.inl (.inl h)
theorem Inv.list (I:Inv X pins σ H s)(h:az X.K H a xs):∃its:List Value,Vals xs its∧PlainL s.heap a its.toArray∧xs.length≤sizeLine:=by
 rcases h with h|⟨o,its,n,hk,hc,hd,hs,hz,r⟩
 ·obtain⟨z,its,n,r,e⟩:=h.ok I.bb
  exact⟨its,r,⟨_,n,e,rfl,rfl,rfl⟩,z⟩
 ·refine⟨its.toList,r,⟨o,n,I.fA a o hk,hc,hd,by simpa using hs⟩,?_⟩
  have e:=r.length
  simp only [Array.length_toList] at e
  omega
theorem Inv.tuple (I:Inv X pins σ H s)(h:dC X.K H a xs):∃its:List Value,Vals xs its∧IsTup s.heap a its.toArray∧xs.length≤sizeLine:=by
 rcases h with h|⟨o,its,n,hk,hc,hs,hz,r⟩
 ·obtain⟨z,its,r,p⟩:=h.ok I.bb
  exact⟨its,r,p,z⟩
 ·refine⟨its.toList,r,⟨o,I.fA a o hk,hc,n,by simpa using hs⟩,?_⟩
  have e:=r.length
  simp only [Array.length_toList] at e
  omega
theorem Inv.pR (I:Inv X pins σ H s)(h:az X.K H a xs)(h':az X.K H a ys):xs=ys:=by
 obtain⟨its,r,⟨o,n,e,_,_,d⟩,_⟩:=I.list h
 obtain⟨its',r',⟨o',n',e',_,_,d'⟩,_⟩:=I.list h'
 rw [e] at e';cases e'
 rw [d] at d'
 injection d' with d1 _
 have:its=its':=by simpa using congrArg Array.toList d1
 subst this
 exact r.inj r'
theorem Inv.EJ (I:Inv X pins σ H s)(h:dC X.K H a xs)(h':dC X.K H a ys):xs=ys:=by
 obtain⟨its,r,⟨o,e,_,n,d⟩,_⟩:=I.tuple h
 obtain⟨its',r',⟨o',e',_,n',d'⟩,_⟩:=I.tuple h'
 rw [e] at e';cases e'
 rw [d] at d'
 injection d' with d1 _
 have:its=its':=by simpa using congrArg Array.toList d1
 subst this
 exact r.inj r'
end
noncomputable abbrev Cx.nH (X:Cx) (E:Value→Shared→Prop):Cx:={ X with xe:=E }
noncomputable abbrev Cx.D8 (X:Cx):Cx:=X.nH λ_ _=>False
theorem Cx.Ok.nH {X:Cx}(ok:X.Ok)(E:Value→Shared→Prop):(X.nH E).Ok:=
 ⟨ok.mod,ok.kind,ok.glob,ok.blt,ok.above,ok.inj,ok.has,ok.tL,ok.hd,ok.frames,ok.vD,ok.yL,ok.bs,ok.nM,ok.oq,ok.pF,ok.i4,ok.qo⟩
theorem Cx.Ok.kH {X:Cx}{E:Value→Shared→Prop}(ok:(X.nH E).Ok):X.Ok:=
 ⟨ok.mod,ok.kind,ok.glob,ok.blt,ok.above,ok.inj,ok.has,ok.tL,ok.hd,ok.frames,ok.vD,ok.yL,ok.bs,ok.nM,ok.oq,ok.pF,ok.i4,ok.qo⟩
section
variable {X:Cx}{pins:List (Addr×Obj)}{σ:St}{H:Hp}{s:Shared}{E:Value→Shared→Prop}
theorem Inv.nH (I:Inv X pins σ H s)(E:Value→Shared→Prop):Inv (X.nH E) pins σ H s:=⟨I.ok.nH E,I.os,I.bare,I.base,I.loc,I.cell,I.free,I.gb,I.pin,I.bb,I.len⟩
theorem Inv.kH (I:Inv (X.nH E) pins σ H s):Inv X pins σ H s:=⟨I.ok.kH,I.os,I.bare,I.base,I.loc,I.cell,I.free,I.gb,I.pin,I.bb,I.len⟩
theorem SP.kH {D:Ends}{f:Flow}{s':Shared}(h:SP (X.nH E) pins D f s'):SP X pins D f s':=by
 cases f with
 | next=>obtain⟨σ',H',I,q⟩:=h;exact⟨σ',H',I.kH,q⟩
 | brk=>obtain⟨σ',H',I,q⟩:=h;exact⟨σ',H',I.kH,q⟩
 | cont=>obtain⟨σ',H',I,q⟩:=h;exact⟨σ',H',I.kH,q⟩
 | ret u=>obtain⟨v,σ',H',I,r,q⟩:=h;exact⟨v,σ',H',I.kH,r,q⟩
theorem mi.D8 {st:List Stmt}{t:TS}(h:mi X.D8 st t):mi X st t:=λpins s σ H D I hw=>
 wpAny_mono (h pins s σ H D (I.nH _) hw) (λ_ _ q=>q.kH) λ_ _ z=>False.elim z
end
section
variable {X:Cx}{st:Stmt}{rest:List Stmt}{t u:TS}{e:Expr}{te:TE}{pos:Pos}
def Df:TS:=λD σ H=>D.nx σ H
def Di (t u:TS):TS:=λD σ H=>t { D with nx:=u D } σ H
theorem aR:mi X [] Df:=λ_ _ σ H _ I h=>wpAny_execs_nil ⟨σ,H,I,h⟩
theorem af (h1:PS X st t)(h2:mi X rest u):mi X (st::rest) (Di t u):=by
 intro pins s σ H D I h
 refine wpAny_execs_cons (bU (h1 pins s σ H { D with nx:=u D } I h) λf s1 q=>?_)
 cases f with
 | next=>
  obtain⟨σ',H',I',q⟩:=q
  exact h2 pins s1 σ' H' D I' q
 | ret v=>exact q
 | brk=>exact q
 | cont=>exact q
theorem ak (h1:PS X st t):mi X [st] t:=by
 intro pins s σ H D I h
 refine wpAny_execs_cons (bU (h1 pins s σ H D I h) λf s1 q=>?_)
 cases f with
 | next=>exact wpAny_execs_nil q
 | ret v=>exact q
 | brk=>exact q
 | cont=>exact q
theorem Inv.quiet {pins:List (Addr×Obj)}{σ:St}{H:Hp}{s:Shared}(I:Inv X pins σ H s):interactive X.env=false:=by simp [interactive,I.ok.kind]
def C9 (te:TE):TS:=λD σ H=>te σ H λ_ H1=>D.nx σ H1
theorem mJ (he:PE X e te)(hs:swapsWith e none pos.line X.env=pure false:=by rfl):PS X (.Expr e pos) (C9 te):=by
 intro pins s σ H D I h
 exact wpAny_Expr_any (bU (he pins s σ H _ I h) λv s1 ⟨x,H1,I1,r1,q1⟩=>⟨σ,H1,I1,q1⟩) I.quiet hs
def Gb (te:TE):TS:=λD σ H=>te σ H D.rt
theorem aC (he:PE X e te):PS X (.Return (some e) pos) (Gb te):=by
 intro pins s σ H D I h
 exact wpAny_Return_some (bU (he pins s σ H _ I h) λv s1 ⟨x,H1,I1,r1,q1⟩=>⟨x,σ,H1,I1,r1,q1⟩)
def FZ (c:TT)(t u:TS):TS:=λD σ H=>c σ H λb H1=>if b=true then t D σ H1 else u D σ H1
theorem bN {c:Expr}{a b:List Stmt}{tc:TT}(hc:PT X c tc)(ha:mi X a t)(hb:mi X b u):PS X (.If c a b pos) (FZ tc t u):=by
 intro pins s σ H D I h
 refine wpAny_If (bU (hc pins s σ H _ I h) λd s1 ⟨H1,I1,q1⟩=>?_)
 cases d with
 | true=>exact ha pins s1 σ H1 D I1 q1
 | false=>exact hb pins s1 σ H1 D I1 q1
def Ad:TS:=λ_ _ _=>False
theorem ff:PS X st Ad:=λ_ _ _ _ _ _ h=>h.elim
end
abbrev TG:=V→St→Hp→(St→Hp→Prop)→Prop
abbrev uP:=List V→St→Hp→(St→Hp→Prop)→Prop
def PG (X:Cx)(target:Expr)(t:TG):Prop:=
 ∀(pins:List (Addr×Obj)) (s:Shared) (σ:St) (H:Hp) (v:V) (u:Value) (Q:St→Hp→Prop),Inv X pins σ H s→RelV v u→t v σ H Q →
  wpAny (model X.prog X.w) X.A (assign target X.env u) (λ_ s'=>∃σ' H',Inv X pins σ' H' s'∧Q σ' H') X.xe s
def Dq (X:Cx)(ts:List Expr)(t:uP):Prop:=
 ∀(pins:List (Addr×Obj)) (s:Shared) (σ:St) (H:Hp) (vs:List V) (us:List Value) (Q:St→Hp→Prop),Inv X pins σ H s→Vals vs us→t vs σ H Q →
  wpAny (model X.prog X.w) X.A (assignInOrder ((assignEach ts X.env).map (·.2)) us) (λ_ s'=>∃σ' H',Inv X pins σ' H' s'∧Q σ' H') X.xe s
abbrev yn:=V→V→V→Hp→(Hp→Prop)→Prop
def E1 (X:Cx)(t:yn):Prop:=
 ∀(pins:List (Addr×Obj)) (s:Shared) (σ:St) (H:Hp) (o i v:V) (ov iv u:Value) (Q:Hp→Prop),Inv X pins σ H s→RelV o ov→RelV i iv→RelV v u→t o i v H Q →
  wpAny (model X.prog X.w) X.A (setItem ov iv u) (λ_ s'=>∃H',Inv X pins σ H' s'∧Q H') X.xe s
abbrev Bz:=V→V→Hp→VK→Prop
def Ip (X:Cx)(op:Operator)(t:Bz):Prop:=
 ∀(pins:List (Addr×Obj)) (s:Shared) (σ:St) (H:Hp) (x y:V) (v u:Value) (Q:VK),Inv X pins σ H s→RelV x v→RelV y u→t x y H Q →
  wpAny (model X.prog X.w) X.A (inplaceOp op v u) (EP X pins σ Q) X.xe s
section
variable {X:Cx}{pos:Pos}
def fk (i:Nat):TG:=λv σ H Q=>Q (σ.set i (some v)) H
theorem cI {i:Nat}{x:Str}(hN:X.N.Nodup)(hi:X.N[i]?=some x)(hx:Loc X.env.scope x)(hf:X.fn x=true∨X.env.scope.names.lookup x=some .local:=by first | exact .inl rfl | exact .inr rfl | assumption):PG X (.Name x pos) (fk i):=by
 intro pins s σ H v u Q I r h
 exact wpAny_assign_Name (nF I hN hi hx r (λs' I'=>⟨_,H,I',h⟩) hf)
noncomputable def pJ:uP:=λvs σ H Q=>vs=[]∧Q σ H
noncomputable def ic (t:TG)(u:uP):uP:=λvs σ H Q=>∃v r,vs=v::r∧t v σ H λσ' H'=>u r σ' H' Q
theorem kZ:Dq X [] pJ:=by
 intro pins s σ H vs us Q I r h
 obtain⟨e,h⟩:=h
 subst e
 cases r
 exact assignInOrder_nil ⟨σ,H,I,h⟩
theorem d8 {e:Expr}{es:List Expr}{t:TG}{u:uP}(h1:PG X e t)(h2:Dq X es u)
    (hs:(assignEach (e::es) X.env).map (·.2)=assign e X.env::(assignEach es X.env).map (·.2):=by rfl):Dq X (e::es) (ic t u):=by
  intro pins s σ H vs us Q I r h
  obtain⟨v,vr,e1,h⟩:=h
  subst e1
  cases r with
  | cons r rr=>
    rw [hs]
    refine assignInOrder_cons (bU (h1 pins s σ H _ _ _ I r h) λ_ s1 ⟨σ1,H1,I1,q1⟩=>?_)
    exact h2 pins s1 σ1 H1 _ _ Q I1 rr q1
def pK (K:PySem.W.Frag)(n:Nat)(t:uP):TG:=λv σ H Q=>∃a xs,v = .ref a∧dC K H a xs∧xs.length=n∧t xs σ H Q
theorem rL {es:List Expr}{k:Nat}{t:uP}{n:Nat}(hc:X.calm=true)(h:Dq X es t)
    (hn:(assignEach es X.env).length=n:=by rfl) (hst:(assignEach es X.env).findIdx? (·.1)=none:=by rfl):PG X (.Tuple es k pos) (pK X.K n t):=by
  intro pins s σ H v u Q I r hw
  obtain⟨a,xs,e1,hq,hl,hw⟩:=hw
  subst e1
  cases r
  obtain⟨its,rv,ht,hz⟩:=I.tuple hq
  refine assign_Tuple_tuple (I.ok.hd hc) ht (by simp [hn,←hl,rv.length]) hst λh' hx=>?_
  have I1:Inv X pins σ H { s with heap:=h' }:=I.kept (t':=s.toks) λb o e=>hx b o (Nat.ne_of_lt (Heap.lt_size e)) e
  exact h pins _ σ H xs _ Q I1 (by simpa using rv) hw
def Fi (to ti:TE)(t:yn):TG:=λv σ H Q=>to σ H λo H1=>ti σ H1 λi H2=>t o i v H2 λH3=>Q σ H3
theorem Jq {o i:Expr}{to ti:TE}{t:yn}(ho:PE X o to)(hi:PE X i ti)(hs:E1 X t)
    (ha:∀v,assign (.Subscript o i pos) X.env v=(do
      let ov ←holding [v] (eval o X.env)
      let iv ←holding [v,ov] (eval i X.env)
      standAt pos
      holding [v,ov,iv] (setItem ov iv v)
      release [v,ov,iv] []):=by intro _;rfl):PG X (.Subscript o i pos) (Fi to ti t):=by
  intro pins s σ H v u Q I r h
  rw [ha]
  refine wpAny_bind (wpAny_holding (bU (ho pins s σ H _ I h) λov s1 ⟨x,H1,I1,r1,q1⟩=>?_))
  refine wpAny_bind (wpAny_holding (bU (hi pins s1 σ H1 _ I1 q1) λiv s2 ⟨y,H2,I2,r2,q2⟩=>?_))
  refine wpAny_bind (wpAny_standAt (wpAny_bind (wpAny_holding (bU (hs pins s2 σ H2 x y v ov iv u _ I2 r1 r2 r q2) λ_ s3 ⟨H3,I3,q3⟩=>?_))))
  exact wpAny_release ⟨σ,H3,I3,q3⟩
def uz (te:TE)(g:TG):TS:=λD σ H=>te σ H λx H1=>g x σ H1 D.nx
theorem zI {tg e:Expr}{te:TE}{g:TG}(he:PE X e te)(hg:PG X tg g)(hs:swapsWithSole [tg] e pos.line X.env=pure false:=by rfl)(hw:swappedStores [tg] e X.env=pure none:=by rfl)
    (h1:(assignEach [tg] X.env).map (·.2)=[assign tg X.env]:=by rfl):PS X (.Assign [tg] e pos) (uz te g):=by
  intro pins s σ H D I h
  refine wpAny_Assign_stores (bU (he pins s σ H _ I h) λv s1 ⟨x,H1,I1,r1,q1⟩=>?_) hs hw
  rw [h1]
  exact bU (hg pins s1 σ H1 x v _ I1 r1 q1) λ_ s2 q=>q
theorem aB {i:Nat}{x:Str}{e:Expr}{te:TE}{pos':Pos}(hN:X.N.Nodup)(hi:X.N[i]?=some x)(hx:Loc X.env.scope x)(he:PE X e te)(hs:swapsWith e (some (.Name x pos')) pos.line X.env=pure false:=by rfl)(hf:X.fn x=true∨X.env.scope.names.lookup x=some .local:=by first | exact .inl rfl | exact .inr rfl | assumption) :
    PS X (.Assign [.Name x pos'] e pos) (uz te (fk i)):=by
  intro pins s σ H D I h
  refine wpAny_Assign_Name (bU (he pins s σ H _ I h) λv s1 ⟨y,H1,I1,r1,q1⟩=>?_) hs
  exact nF I1 hN hi hx r1 (λs2 I2=>⟨_,H1,I2,q1⟩) hf
def FV (i:Nat)(te:TE)(ti:Bz):TS:=λD σ H=>∃x,σ[i]?=some (some x)∧te σ H λy H1=>ti x y H1 λz H2=>D.nx (σ.set i (some z)) H2
theorem zJ {i:Nat}{x:Str}{e:Expr}{te:TE}{op:Operator}{ti:Bz}{pos':Pos}(hN:X.N.Nodup)(hi:X.N[i]?=some x)(hx:Loc X.env.scope x)(he:PE X e te)(ho:Ip X op ti)(hf:X.fn x=true∨X.env.scope.names.lookup x=some .local:=by first | exact .inl rfl | exact .inr rfl | assumption) :
    PS X (.AugAssign (.Name x pos') op e pos) (FV i te ti):=by
  intro pins s σ H D I h
  obtain⟨v,e1,h⟩:=h
  obtain⟨m,hn,hl⟩:=I.loc
  have vis:Gn X.env.scope x:=by rcases hx with k | k;exact .inl k;exact .inr (.inl k)
  obtain⟨u,r,l⟩:=hl i x v hi e1 vis
  refine wpAny_AugAssign_Name ?_
  have go:wpAny (model X.prog X.w) X.A (eval e X.env) (λw s₂=>wpAny (model X.prog X.w) X.A (inplaceOp op u w) (λr s₃=>wpAny (model X.prog X.w) X.A (storeName X.env x r) (λ_=>SP X pins D .next) X.xe s₃) X.xe s₂) X.xe s:=by
    refine bU (he pins s σ H _ I h) λw s1 ⟨y,H1,I1,r1,q1⟩=>?_
    refine bU (ho pins s1 σ H1 v y u w _ I1 r r1 q1) λz s2 ⟨zv,H2,I2,r2,q2⟩=>?_
    exact nF I2 hN hi hx r2 (λs3 I3=>⟨_,H2,I3,q2⟩) hf
  rcases l with⟨hk,hm⟩|⟨hk,c,hc,hcell⟩
  · exact wpAny_loadName_local I.ok.kind hk hn hm go
  · rcases hk with hk|hk
    · exact wpAny_loadName_cell I.ok.kind hk hc hcell go
    · rcases hx with k|k
      · have:X.env.scope.names.lookup x=some .free:=hk
        rw [k] at this;cases this
      · have:X.env.scope.names.lookup x=some .free:=hk
        rw [k] at this;cases this
def C4 (to ti te:TE)(tget:V→V→Hp→VK→Prop)(tip:Bz)(tset:yn):TS:=λD σ H=>to σ H λo H1=>ti σ H1 λi H2=>tget o i H2 λx H3=>te σ H3 λy H4=>tip x y H4 λz H5=>tset o i z H5 λH6=>D.nx σ H6
def Im (X:Cx)(t:V→V→Hp→VK→Prop):Prop:=
 ∀(pins:List (Addr×Obj)) (s:Shared) (σ:St) (H:Hp) (o i:V) (ov iv:Value) (Q:VK),Inv X pins σ H s→RelV o ov→RelV i iv→t o i H Q →
  wpAny (model X.prog X.w) X.A (getItem ov iv) (EP X pins σ Q) X.xe s
theorem BV {o i e:Expr}{to ti te:TE}{tget:V→V→Hp→VK→Prop}{tip:Bz}{tset:yn}{op:Operator}{tpos:Pos}(ho:PE X o to)(hi:PE X i ti)(hg:Im X tget)(he:PE X e te)(hp:Ip X op tip)(hs:E1 X tset)
    (ha:∀ov iv new,augStore i ov iv new=(do holding [new,ov,iv] (setItem ov iv new);release [new,ov,iv] [];pure .next):=by intros;rfl):PS X (.AugAssign (.Subscript o i tpos) op e pos) (C4 to ti te tget tip tset):=by
  intro pins s σ H D I h
  refine wpAny_AugAssign_SubscriptAny (bU (ho pins s σ H _ I h) λov s1 ⟨x1,H1,I1,r1,q1⟩=>?_) ha
  refine bU (hi pins s1 σ H1 _ I1 q1) λiv s2 ⟨x2,H2,I2,r2,q2⟩=>?_
  refine bU (hg pins s2 σ H2 x1 x2 ov iv _ I2 r1 r2 q2) λold s3 ⟨x3,H3,I3,r3,q3⟩=>?_
  refine bU (he pins s3 σ H3 _ I3 q3) λv s4 ⟨x4,H4,I4,r4,q4⟩=>?_
  refine bU (hp pins s4 σ H4 x3 x4 old v _ I4 r3 r4 q4) λnew s5 ⟨x5,H5,I5,r5,q5⟩=>?_
  exact bU (hs pins s5 σ H5 x1 x2 x5 ov iv new _ I5 r1 r2 r5 q5) λ_ s6 ⟨H6,I6,q6⟩=>⟨σ,H6,I6,q6⟩
noncomputable def IQ (f:Int→Int→Int):Bz:=λx y H Q=>∃i j,x = .int i∧y = .int j∧Q (.int (f i j)) H
theorem rp:Ip X .Add (IQ λi j=>i+j):=by
 intro pins s σ H x y v u Q I r1 r2 h
 obtain⟨i,j,e1,e2,q⟩:=h
 subst e1;subst e2
 obtain⟨t,rfl⟩:=r1
 obtain⟨t',rfl⟩:=r2
 exact iadd_int ⟨.int _,H,I.tok _,⟨_,rfl⟩,q⟩
end
section
variable {X:Cx}{pos:Pos}
def EH (c:TT)(tb:TS):TS:=λD σ H=>∃W:Nat→St→Hp→Prop,(∃m,W m σ H)∧∀m σ H,W m σ H →
 c σ H λb H1=>if b=true then ∃N:St→Hp→Prop,(∀σ' H',N σ' H'→∃m',m'<m∧W m' σ' H')∧tb { D with nx:=N,ct:=N,bk:=D.nx } σ H1 else D.nx σ H1
theorem ll {c:Expr}{body:List Stmt}{tc:TT}{tb:TS}(hp:PassesOwn (model X.prog X.w) X.A X.env X.xe)(hc:PT X c tc)(hb:mi X body tb):PS X (.While c body [] pos) (EH tc tb):=by
 intro pins s σ H D I h
 obtain⟨W,⟨m0,w0⟩,turn⟩:=h
 refine wpAny_While (codeAny_whileLoop (λn s'=>∃σ' H',Inv X pins σ' H' s'∧W n σ' H') ?_ m0 ⟨σ,H,I,w0⟩)
 rintro n s1 ⟨σ1,H1,I1,w1⟩
 refine wpAny_passesOwn hp (bU (hc pins s1 σ1 H1 _ I1 (turn n σ1 H1 w1)) λb s2 ⟨H2,I2,q2⟩=>?_)
 cases b with
 | true=>
  obtain⟨N,hN,q2⟩:=q2
  rw [if_pos rfl]
  refine wpAny_passesOwn hp (bU (hb pins s2 σ1 H2 _ I2 q2) λf s3 q3=>?_)
  cases f with
  | next=>
   obtain⟨σ3,H3,I3,n3⟩:=q3
   obtain⟨m',hm,w3⟩:=hN σ3 H3 n3
   exact⟨m',hm,σ3,H3,I3,w3⟩
  | cont=>
   obtain⟨σ3,H3,I3,n3⟩:=q3
   obtain⟨m',hm,w3⟩:=hN σ3 H3 n3
   exact⟨m',hm,σ3,H3,I3,w3⟩
  | brk=>exact q3
  | ret v=>exact q3
 | false=>
  rw [if_neg Bool.false_ne_true]
  exact wpAny_execs_nil ⟨σ1,H2,I2,q2⟩
end
structure It where
 go:Nat→Hp→Prop
 pd:Nat→Hp→V→Hp→Prop
 stop:Nat→Hp→Prop
def gF (X:Cx)(pins:List (Addr×Obj))(H:Hp)(b:Addr):Prop:=
 H b=none∧b≠X.env.locals∧b∉X.fs∧(b∈X.ex∨X.s₀.heap.objs.size≤b)∧(∀x c,X.env.cells.lookup x=some c→c≠b)∧∀p∈X.pn++pins,p.1≠b
theorem Inv.pH {X:Cx}{pins:List (Addr×Obj)}{σ:St}{H H':Hp}{s:Shared}{b:Addr}(I:Inv X pins σ H s)(hb:s.heap.objs.size≤b)(hn:H' b=none):gF X pins H' b:=by
 refine⟨hn,Nat.ne_of_gt (Nat.lt_of_lt_of_le I.lt hb),I.Fy hb,.inr (Nat.le_trans I.sz hb),λx c e z=>?_,λp hp z=>?_⟩
 ·obtain⟨v,q⟩:=I.cell x c e
  exact absurd (Nat.lt_of_lt_of_le q.lt (by rw [z];exact hb)) (Nat.lt_irrefl _)
 ·exact absurd (Nat.lt_of_lt_of_le (Heap.lt_size (I.pin p hp).1) (by rw [z];exact hb)) (Nat.lt_irrefl _)
structure Turn (P:Program)(w:World)(K:PySem.W.Frag)(tg:Expr)(J:It)(fp:List Addr)(it:Addr)(tn:Nat→Heap→Prop):Prop where
 mem:it∈fp
 obj:∀i h,tn i h→∀b∈fp,∃o,h.get? b=some o∧∀v,o.data≠.cell v
 keep:∀i h h',tn i h→(∀b∈fp,∀o,h.get? b=some o→h'.get? b=some o)→tn i h'
 item:∀(X:Cx),X.prog=P→X.w=w→X.K=K→X.calm=true→∀(i:Nat) (pins:List (Addr×Obj)) (s:Shared) (σ:St) (H:Hp) (E:Value→Shared→Prop),Inv X pins σ H s→(∀b∈fp,gF X pins H b)→tn i s.heap→J.go i H →
  wpAny (model P w) X.A (pyNext (.ref it)) (λr s1=>∃u,r=some u ∧
   wpAny (model P w) X.A (letOwnedTupleGo tg (.ref it) u) (λ_ s2=>∃x H',Inv X pins σ H' s2∧RelV x u∧J.pd i H x H'∧tn (i+1) s2.heap∧∀b∈fp,H' b=none) E s1) E s
 done:∀(X:Cx),X.prog=P→X.w=w→X.K=K→X.calm=true→∀(i:Nat) (pins:List (Addr×Obj)) (s:Shared) (σ:St) (H:Hp) (E:Value→Shared→Prop),Inv X pins σ H s→(∀b∈fp,gF X pins H b)→tn i s.heap→J.stop i H →
  wpAny (model P w) X.A (pyNext (.ref it)) (λr s1=>r=none∧Inv X pins σ H s1) E s
 self:∀(A:Around) (i:Nat) (s:Shared) (Q:Value→Shared→Prop) (E:Value→Shared→Prop),tn i s.heap→Q (.ref it) s→wpAny (model P w) A (pyIter (.ref it)) Q E s
abbrev TI:=St→Hp→(It→Hp→Prop)→Prop
def Io (X:Cx)(pins:List (Addr×Obj))(σ:St)(tg:Expr)(R:It→Hp→Prop)(itv:Value)(s2:Shared):Prop:=
 ∃(it:Addr) (fp:List Addr) (tn:Nat→Heap→Prop) (J:It) (H':Hp),itv = .ref it∧Inv X pins σ H' s2∧Turn X.prog X.w X.K tg J fp it tn∧tn 0 s2.heap∧(∀b∈fp,gF X pins H' b)∧R J H'
def PI (X:Cx)(tg iter:Expr)(wi:TI):Prop:=
 ∀(pins:List (Addr×Obj)) (s:Shared) (σ:St) (H:Hp) (R:It→Hp→Prop),Inv X pins σ H s→wi σ H R →
  wpAny (model X.prog X.w) X.A (eval iter X.env) (λv s1=>wpAny (model X.prog X.w) X.A (pyIter v) (Io X pins σ tg R) X.xe s1) X.xe s
theorem u7 {M:Model}{A:Around}{E:Value→Shared→Prop}{s:Shared}{tg:Expr}{it:Addr}{u:Value}{o:Obj}{n:String}{vs:Array Value}{Q:Unit→Shared→Prop}(ho:s.heap.get? it=some o)(hc:o.cls = .type n)(hd:o.data = .fields vs)
    (hn:["enumerate","zip","dict_itemiterator","dict_reverseitemiterator","odict_iterator","itertools.zip_longest","itertools.pairwise"].contains n=false) (hQ:Q () s):wpAny M A (letOwnedTupleGo tg (.ref it) u) Q E s:=by
  unfold letOwnedTupleGo
  cases tg<;>first
    | exact wpAny_pure hQ
    | (cases u<;>first
        | exact wpAny_pure hQ
        | (refine wpAny_bind (wpAny_load ho ?_)
           rw [hc,hd]
           show wpAny M A (if (["enumerate","zip","dict_itemiterator","dict_reverseitemiterator","odict_iterator","itertools.zip_longest","itertools.pairwise"].contains n && vs[0]? == some (rawInt _))=true then _ else _) Q E s
           rw [if_neg (by intro h;rw [hn,Bool.false_and] at h;cases h)]
           exact wpAny_pure hQ))
noncomputable def mL (K:PySem.W.Frag)(a:Addr):It:=
 ⟨λi H=>∃xs x,az K H a xs∧xs[i]?=some x,λi H x H'=>H'=H∧∀xs,az K H a xs→xs[i]?=some x,λi H=>∃xs,az K H a xs∧xs.length≤i⟩
noncomputable def qF (lo:Int)(n:Nat):It:=⟨λi _=>i<n,λi H x H'=>H'=H∧x = .int (lo+i),λi _=>n≤i⟩
theorem EL {P:Program}{w:World}{K:PySem.W.Frag}{tg:Expr}(a it:Addr):Turn P w K tg (mL K a) [it] it (λi h=>h.IsListIter it a i) where
 mem:=by simp
 obj:=λi h st b hb=>by
  have e:b=it:=by simpa using hb
  subst e
  obtain⟨o,e,c,d⟩:=st
  exact⟨o,e,λv z=>by rw [d] at z;cases z⟩
 keep:=λi h h' st k=>st.at λo e=>k it (by simp) o e
 item:=by
  intro X hP hw hK hc i pins s σ H E I hf st hg
  subst hP hw hK
  obtain⟨xs,x,hq,hx⟩:=hg
  obtain⟨its,rv,p,hz⟩:=I.list hq
  obtain⟨u,hu,ru⟩:=rv.get hx
  obtain⟨f0,f1,f2,f3,f4,f5⟩:=hf it (by simp)
  refine wpAny_pyNext_list_item st p.isList (x:=u) (by simpa using hu) λh' st' sb=>?_
  have I1:Inv X pins σ H { s with heap:=h' }:=I.turned (t':=s.toks) (λb o hb e=>(sb.2 b hb).trans e) f0 f1 f3 f4 f5
  obtain⟨o,e,c,d⟩:=id st'
  exact⟨u,rfl,u7 (s:={ s with heap:=h' }) e c d (by decide) ⟨x,H,I1,ru,⟨rfl,λys hy=>by rw [I.pR hy hq];exact hx⟩,st',λb hb=>(hf b hb).1⟩⟩
 done:=by
  intro X hP hw hK hc i pins s σ H E I hf st hg
  subst hP hw hK
  obtain⟨xs,hq,hx⟩:=hg
  obtain⟨its,rv,p,hz⟩:=I.list hq
  obtain⟨f0,f1,f2,f3,f4,f5⟩:=hf it (by simp)
  have hl:=rv.length
  exact wpAny_pyNext_list_end (I.ok.hd hc) st p.isList (by simp;omega) λh' eb=>⟨rfl,I.turned (t':=s.toks) (λb o hb e=>eb b o hb e) f0 f1 f3 f4 f5⟩
 self:=λ_ _ _ _ _ st h=>wpAny_pyIter_listiter st h
theorem Dl {P:Program}{w:World}{K:PySem.W.Frag}{tg:Expr}(it:Addr)(lo:Int)(n:Nat):Turn P w K tg (qF lo n) [it] it (λi h=>IsRangeIter h it (lo+(i:Nat)*1) ((n:Int)-(i:Nat)) 1) where
 mem:=by simp
 obj:=λi h st b hb=>by
  have e:b=it:=by simpa using hb
  subst e
  exact⟨_,st,λv z=>by
   have z':Data.fields _=Data.cell v:=z
   cases z'⟩
 keep:=λi h h' st k=>k it (by simp) _ st
 item:=by
  intro X hP hw hK hc i pins s σ H E I hf st hg
  subst hP hw hK
  obtain⟨f0,f1,f2,f3,f4,f5⟩:=hf it (by simp)
  have W:=Walks.range (prog:=X.prog) (w:=X.w) (I.ok.hd hc) it lo 1 n
  refine W.item i s _ _ hg st λv h' tk hv st' kk=>?_
  obtain⟨t,rfl⟩:=hv
  have I1:Inv X pins σ H { s with heap:=h',toks:=tk }:=I.turned (λb o hb e=>kk b o (by simpa using hb) e) f0 f1 f3 f4 f5
  refine⟨_,rfl,u7 (s:={ s with heap:=h',toks:=tk }) (n:="range_iterator") st' rfl rfl (by decide) ⟨.int (lo+i),H,I1,⟨t,?_⟩,⟨rfl,rfl⟩,st',λb hb=>(hf b hb).1⟩⟩
  rw [Int.mul_one]
 done:=by
  intro X hP hw hK hc i pins s σ H E I hf st hg
  subst hP hw hK
  obtain⟨f0,f1,f2,f3,f4,f5⟩:=hf it (by simp)
  exact wpAny_pyNext_range_end (I.ok.hd hc) st (by have:n≤i:=hg;omega) λh' eb=>⟨rfl,I.turned (t':=s.toks) (λb o hb e=>eb b o hb e) f0 f1 f3 f4 f5⟩
 self:=λ_ _ _ _ _ st h=>wpAny_pyIter_rangeiter st h
open PySem PySem.Spec PyProof.Rows
section
variable {X:Cx}{tg:Expr}
def CF (K:PySem.W.Frag)(tl:TE):TI:=λσ H R=>tl σ H λx H1=>∃a,x = .ref a∧(∃xs,az K H1 a xs)∧R (mL K a) H1
theorem d3 {l:Expr}{tl:TE}(hl:PE X l tl):PI X tg l (CF X.K tl):=by
 intro pins s σ H R I h
 refine bU (hl pins s σ H _ I h) λv s1 ⟨x,H1,I1,r1,q1⟩=>?_
 obtain⟨a,e,⟨xs,hq⟩,q⟩:=q1
 subst e
 cases r1
 obtain⟨its,rv,p,hz⟩:=I1.list hq
 refine wpAny_pyIter_list p.isList ?_
 refine⟨s1.heap.objs.size,[s1.heap.objs.size],_,_,H1,rfl,I1.kept (t':=s1.toks) λb o e=>Heap.get?_push_of_some _ e,EL a _,⟨_,Heap.get?_push_size _ rfl,rfl,rfl⟩,λb hb=>?_,q⟩
 have e:b=s1.heap.objs.size:=by simpa using hb
 subst e
 exact I1.pH (Nat.le_refl _) (I1.bb.fresh (Nat.le_refl _))
theorem zO {pins:List (Addr×Obj)}{σ:St}{H:Hp}{s:Shared}{R:It→Hp→Prop}{E:Value→Shared→Prop}{lo hi:Int}{t u v:Tok}{tk:Nat}(I:Inv X pins σ H s)(h1:-(2^62)≤lo)(h2:lo<2^62)(h3:-(2^62)≤hi)(h4:hi<2^62)
    (q:R (qF lo (hi-lo).toNat) H):wpAny (model X.prog X.w) X.A (pyIter (.ref s.heap.objs.size)) (Io X pins σ tg R) E { s with heap:=s.heap.push { cls:=.type "range",data:=.fields #[.int lo t,.int hi u,.int 1 v] },toks:=tk }:=by
  refine wpAny_pyIter_range (IsRange.new ..) (small_one h1 h2 h3 h4) ?_
  have I1:Inv X pins σ H { s with heap:=s.heap.push { cls:=.type "range",data:=.fields #[.int lo t,.int hi u,.int 1 v] },toks:=tk }:=I.kept λb o e=>Heap.get?_push_of_some _ e
  refine⟨(s.heap.push { cls:=.type "range",data:=.fields #[.int lo t,.int hi u,.int 1 v] }).objs.size,[(s.heap.push { cls:=.type "range",data:=.fields #[.int lo t,.int hi u,.int 1 v] }).objs.size],_,_,H,rfl,
    I1.kept (t':=tk) λb o e=>Heap.get?_push_of_some _ e,Dl _ lo (hi-lo).toNat,?_,λb hb=>?_,q⟩
  · have e1:lo+((0:Nat):Int)*1=lo:=by simp
    have e2:(((hi-lo).toNat:Nat):Int)-((0:Nat):Int)=Builtin.Range.rangeSize lo hi 1:=by rw [rangeSize_one];split<;>omega
    show IsRangeIter _ _ (lo+((0:Nat):Int)*1) ((((hi-lo).toNat:Nat):Int)-((0:Nat):Int)) 1
    rw [e1,e2]
    exact Heap.get?_push_size _ rfl
  · have e:b=(s.heap.push { cls:=.type "range",data:=.fields #[.int lo t,.int hi u,.int 1 v] }).objs.size:=by simpa using hb
    subst e
    exact I1.pH (Nat.le_refl _) (I1.bb.fresh (Nat.le_refl _))
def CG (ta:TA):TI:=λσ H R=>ta σ H λvs H1=>∃j:Int,vs=[.int j]∧-(2^62)≤j∧j<2^62∧R (qF 0 j.toNat) H1
def CH (ta:TA):TI:=λσ H R=>ta σ H λvs H1=>∃i j:Int,vs=[.int i,.int j]∧(-(2^62)≤i∧i<2^62∧-(2^62)≤j∧j<2^62)∧R (qF i (j-i).toNat) H1
theorem h8 {a:Expr}{ta:TA}{p pos:Pos}(hg:Gl X "range")(hm:X.mg "range"=none)(ha:PA X [a] ta)(hs:starEach [a] X.env=[(false,eval a X.env)]:=by rfl):PI X tg (.Call (.Name "range" p) [a] [] pos) (CG ta):=by
 intro pins s σ H R I h
 refine Call_ (kq I hg hm boot_range (PyProof.Rows.callWith_type1 (bU (ha pos pins s σ H _ I h) λus s1 ⟨vs,H1,I1,r1,q1⟩=>?_) hs rfl))
 obtain⟨j,e,q1,q2,q⟩:=q1
 subst e
 cases r1 with
 | cons r rr=>
  cases rr
  obtain⟨t,rfl⟩:=r
  exact call_range_1 (zO I1 (by omega) (by omega) q1 q2 (by simpa using q))
theorem nX {a b:Expr}{ta:TA}{p pos:Pos}(hg:Gl X "range")(hm:X.mg "range"=none)(ha:PA X [a,b] ta)(hs:starEach [a,b] X.env=[(false,eval a X.env),(false,eval b X.env)]:=by rfl)(hs2:starEach [b] X.env=[(false,eval b X.env)]:=by rfl) :
    PI X tg (.Call (.Name "range" p) [a,b] [] pos) (CH ta):=by
  intro pins s σ H R I h
  refine Call_ (kq I hg hm boot_range (PyProof.Rows.callWith_type1 (bU (ha pos pins s σ H _ I h) λus s1 ⟨vs,H1,I1,r1,q1⟩=>?_) (by rw [hs,hs2]) (by rw [hs2];rfl)))
  obtain⟨i,j,e,⟨q1,q2,q3,q4⟩,q⟩:=q1
  subst e
  cases r1 with
  | cons r rr=>
    cases rr with
    | cons r' rr=>
      cases rr
      obtain⟨t,rfl⟩:=r
      obtain⟨t',rfl⟩:=r'
      exact call_range_2 (zO I1 q1 q2 q3 q4 q)
def JA (wi:TI)(g:TG)(tb:TS):TS:=λD σ H=>wi σ H λJ H1=>∃W:Nat→Nat→St→Hp→Prop,(∃m,W 0 m σ H1)∧∀i m σ H,W i m σ H →
 (J.stop i H∧D.nx σ H)∨(J.go i H∧∃N:St→Hp→Prop,(∀σ' H',N σ' H'→∃m',m'<m∧W (i+1) m' σ' H')∧∀x H',J.pd i H x H'→g x σ H' λσ2 H2=>tb { D with nx:=N,ct:=N,bk:=D.nx } σ2 H2)
noncomputable def oX (fp:List Addr)(h:Heap):List (Addr×Obj):=fp.filterMap λb=>(h.get? b).map λo=>(b,o)
theorem jd {fp:List Addr}{h:Heap}{b:Addr}{o:Obj}(hb:b∈fp)(e:h.get? b=some o):(b,o)∈oX fp h:=List.mem_filterMap.mpr ⟨b,hb,by rw [e];rfl⟩
theorem Ea {fp:List Addr}{h:Heap}{p:Addr×Obj}(hp:p∈oX fp h):p.1∈fp∧h.get? p.1=some p.2:=by
 obtain⟨b,hb,e⟩:=List.mem_filterMap.mp hp
 cases q:h.get? b with
 | none=>rw [q] at e;cases e
 | some o=>
  rw [q] at e
  have e':(b,o)=p:=Option.some.inj e
  subst e'
  exact⟨hb,q⟩
theorem Inv.pinned {pins:List (Addr×Obj)}{σ:St}{H:Hp}{s:Shared}{fp:List Addr}(I:Inv X pins σ H s)(hf:∀b∈fp,gF X pins H b)(ho:∀b∈fp,∃o,s.heap.get? b=some o∧∀v,o.data≠.cell v):Inv X (pins++oX fp s.heap) σ H s:=
 I.j4 λp hp=>(List.mem_append.mp hp).elim (λz=>I.pin p (List.mem_append_right _ z)) λz=>by
  obtain⟨hb,e⟩:=Ea z
  obtain⟨f0,f1,f2,_⟩:=hf p.1 hb
  obtain⟨o,e',d⟩:=ho p.1 hb
  rw [e] at e';cases e'
  exact⟨e,f0,f1,f2,d⟩
theorem Inv.nG {pins pl:List (Addr×Obj)}{σ:St}{H:Hp}{s:Shared}(I:Inv X (pins++pl) σ H s):Inv X pins σ H s:=I.j4 λp hp=>I.pin p (List.mem_append_right _ (List.mem_append_left _ hp))
theorem fK {iter:Expr}{body:List Stmt}{wi:TI}{g:TG}{tb:TS}{pos:Pos}(hp:PassesOwn (model X.prog X.w) X.A X.env X.xe)(hc:X.calm=true)(hi:PI X tg iter wi)(hg:PG X tg g)(hb:mi X body tb)
    (hs:∀x,foldedSetIterable iter X.env x=pure x:=by intro _;rfl):PS X (.For tg iter body [] pos) (JA wi g tb):=by
  intro pins s σ H D I h
  refine wpAny_For (bU (hi pins s σ H _ I h) λv s1 h1=>bU h1 λitv s2 h2=>?_) hs
  obtain⟨it,fp,tn,J,H2,e,I2,T,st2,f2,W,⟨m0,w0⟩,turn⟩:=h2
  subst e
  have stat:∀{H':Hp},(∀b∈fp,H' b=none)→∀b∈fp,gF X pins H' b:=λhn b hb=>⟨hn b hb,(f2 b hb).2⟩
  refine codeAny_forLoop_any (λn s'=>∃i σ' H',Inv X pins σ' H' s'∧tn i s'.heap∧(∀b∈fp,H' b=none)∧W i n σ' H') ?_ m0 ⟨0,σ,H2,I2,st2,λb hb=>(f2 b hb).1,w0⟩
  rintro n s3 ⟨i,σ3,H3,I3,st3,fr3,w3⟩
  rcases turn i n σ3 H3 w3 with⟨stop,qn⟩|⟨go,N,hN,step⟩
  · refine wpAny_passesOwn hp (bU (T.done X rfl rfl rfl hc i pins s3 σ3 H3 X.xe I3 (stat fr3) st3 stop) λr s4 ⟨hr,I4⟩=>?_)
    subst hr
    exact wpAny_execs_nil ⟨σ3,H3,I4,qn⟩
  · refine wpAny_passesOwn hp (bU (T.item X rfl rfl rfl hc i pins s3 σ3 H3 X.xe I3 (stat fr3) st3 go) λr s4 ⟨u,hr,h4⟩=>?_)
    subst hr
    refine wpAny_passesOwn hp (bU h4 λ_ s5 ⟨x,H5,I5,r5,y5,st5,fr5⟩=>?_)
    have I5':=I5.pinned (stat fr5) (T.obj _ _ st5)
    refine wpAny_passesOwn hp (bU (hg _ s5 σ3 H5 x u _ I5' r5 (step x H5 y5)) λ_ s6 ⟨σ6,H6,I6,q6⟩=>?_)
    refine wpAny_passesOwn hp (bU (hb _ s6 σ6 H6 _ I6 q6) λf s7 q7=>?_)
    have again:∀{σ7:St} {H7:Hp},Inv X (pins++oX fp s5.heap) σ7 H7 s7→N σ7 H7→∃m,m<n∧∃i σ' H',Inv X pins σ' H' s7∧tn i s7.heap∧(∀b∈fp,H' b=none)∧W i m σ' H':=λ{σ7 H7} I7 n7=>by
      obtain⟨m',hm,w7⟩:=hN σ7 H7 n7
      refine⟨m',hm,i+1,σ7,H7,I7.nG,T.keep _ _ _ st5 λb hb o e=>(I7.pin (b,o) (List.mem_append_right _ (List.mem_append_right _ (jd hb e)))).1,λb hb=>?_,w7⟩
      obtain⟨o,e,d⟩:=T.obj _ _ st5 b hb
      exact (I7.pin (b,o) (List.mem_append_right _ (List.mem_append_right _ (jd hb e)))).2.1
    cases f with
    | next=>obtain⟨σ7,H7,I7,n7⟩:=q7;exact again I7 n7
    | cont=>obtain⟨σ7,H7,I7,n7⟩:=q7;exact again I7 n7
    | brk=>obtain⟨σ7,H7,I7,q7⟩:=q7;exact⟨σ7,H7,I7.nG,q7⟩
    | ret v=>obtain⟨x7,σ7,H7,I7,r7,q7⟩:=q7;exact⟨x7,σ7,H7,I7.nG,r7,q7⟩
end
theorem Fg {K:PySem.W.Frag}{a:Addr}{xs:List V}{g:TG}{tb:TS}{D:Ends}{σ:St}{H:Hp}(Pv:Nat→St→Hp→Prop)(h0:Pv 0 σ H)(hl:∀i σ H,i≤xs.length→Pv i σ H→az K H a xs)
    (hs:∀i x σ H,xs[i]?=some x→Pv i σ H→g x σ H λσ2 H2=>tb { D with nx:=Pv (i+1),ct:=Pv (i+1),bk:=D.nx } σ2 H2) (hd:∀σ H,Pv xs.length σ H→D.nx σ H) :
    ∃W:Nat→Nat→St→Hp→Prop,(∃m,W 0 m σ H)∧∀i m σ H,W i m σ H →
      ((mL K a).stop i H∧D.nx σ H)∨((mL K a).go i H∧∃N:St→Hp→Prop,(∀σ' H',N σ' H'→∃m',m'<m∧W (i+1) m' σ' H')∧∀x H',(mL K a).pd i H x H'→g x σ H' λσ2 H2=>tb { D with nx:=N,ct:=N,bk:=D.nx } σ2 H2):=by
  refine⟨λi m σ H=>m=xs.length-i∧i≤xs.length∧Pv i σ H,⟨xs.length,by simp,Nat.zero_le _,h0⟩,?_⟩
  rintro i m σ H ⟨rfl,hi,p⟩
  have q:=hl i σ H hi p
  by_cases hlt:i<xs.length
  · refine .inr ⟨⟨xs,xs[i],q,by simp [hlt]⟩,Pv (i+1),λσ' H' p'=>⟨xs.length-(i+1),by omega,rfl,hlt,p'⟩,λx H' y=>?_⟩
    obtain⟨e,y⟩:=y
    subst e
    exact hs i x σ _ (y xs q) p
  · have e:i=xs.length:=by omega
    subst e
    exact .inl ⟨⟨xs,q,Nat.le_refl _⟩,hd σ H p⟩
theorem w5 {lo:Int}{n:Nat}{g:TG}{tb:TS}{D:Ends}{σ:St}{H:Hp}(Pv:Nat→St→Hp→Prop)(h0:Pv 0 σ H)
    (hs:∀i σ H,i<n→Pv i σ H→g (.int (lo+i)) σ H λσ2 H2=>tb { D with nx:=Pv (i+1),ct:=Pv (i+1),bk:=D.nx } σ2 H2) (hd:∀σ H,Pv n σ H→D.nx σ H) :
    ∃W:Nat→Nat→St→Hp→Prop,(∃m,W 0 m σ H)∧∀i m σ H,W i m σ H →
      ((qF lo n).stop i H∧D.nx σ H)∨((qF lo n).go i H∧∃N:St→Hp→Prop,(∀σ' H',N σ' H'→∃m',m'<m∧W (i+1) m' σ' H')∧∀x H',(qF lo n).pd i H x H'→g x σ H' λσ2 H2=>tb { D with nx:=N,ct:=N,bk:=D.nx } σ2 H2):=by
  refine⟨λi m σ H=>m=n-i∧i≤n∧Pv i σ H,⟨n,by simp,Nat.zero_le _,h0⟩,?_⟩
  rintro i m σ H ⟨rfl,hi,p⟩
  by_cases hlt:i<n
  · refine .inr ⟨hlt,Pv (i+1),λσ' H' p'=>⟨n-(i+1),by omega,rfl,hlt,p'⟩,λx H' y=>?_⟩
    obtain⟨e,y⟩:=y
    subst e y
    exact hs i σ _ hlt p
  · have e:i=n:=by omega
    subst e
    exact .inl ⟨Nat.le_refl _,hd σ H p⟩
open PySem PySem.Spec PyProof.Rows
abbrev R2:=V→V→Hp→VK→Prop
def gC (X:Cx)(f:Value→Value→Sem Value)(r:R2):Prop:=
 ∀(pins:List (Addr×Obj)) (s:Shared) (σ:St) (H:Hp) (x y:V) (v u:Value) (Q:VK),Inv X pins σ H s→RelV x v→RelV y u→r x y H Q →
  wpAny (model X.prog X.w) X.A (f v u) (EP X pins σ Q) X.xe s
def Ir (X:Cx)(f:Value→Sem Value)(r:V→Hp→VK→Prop):Prop:=
 ∀(pins:List (Addr×Obj)) (s:Shared) (σ:St) (H:Hp) (x:V) (v:Value) (Q:VK),Inv X pins σ H s→RelV x v→r x H Q →
  wpAny (model X.prog X.w) X.A (f v) (EP X pins σ Q) X.xe s
def fz (X:Cx)(f:Value)(r:List V→Hp→VK→Prop):Prop:=
 ∀(pins:List (Addr×Obj)) (s:Shared) (σ:St) (H:Hp) (xs:List V) (us:List Value) (Q:VK),Inv X pins σ H s→Vals xs us→r xs H Q →
  wpAny (model X.prog X.w) X.A (call f us) (EP X pins σ Q) X.xe s
def n5 (r:R2)(ta tb:TE):TE:=λσ H Q=>ta σ H λx H1=>tb σ H1 λy H2=>r x y H2 Q
def JE (r:V→Hp→VK→Prop)(ta:TE):TE:=λσ H Q=>ta σ H λx H1=>r x H1 Q
def rI (C:Int→Int→Prop)(g:Int→Int→V):R2:=λx y H Q=>∃i j,x = .int i∧y = .int j∧C i j∧Q (g i j) H
def tX (g:Int→Int→V):R2:=λx y H Q=>∃i j,x = .int i∧y = .int j∧Q (g i j) H
def rU (g:Int→V):V→Hp→VK→Prop:=λx H Q=>∃i,x = .int i∧Q (g i) H
section
variable {X:Cx}{a b c:Expr}{ta tb tc:TE}{pos:Pos}
theorem E3 (ha:PE X a ta)(hb:PE X b tb){pins:List (Addr×Obj)}{s:Shared}{σ:St}{H:Hp}{R:V→V→Hp→Prop}(I:Inv X pins σ H s)
    (h:ta σ H λx H1=>tb σ H1 λy H2=>R x y H2) {Q:Value→Shared→Prop} {f:Value→Value→Sem Value}
    (hf:∀v u s2 x y H2,Inv X pins σ H2 s2→RelV x v→RelV y u→R x y H2→wpAny (model X.prog X.w) X.A (f v u) Q X.xe s2) :
    wpAny (model X.prog X.w) X.A (eval a X.env) (λv s₁=>wpAny (model X.prog X.w) X.A (eval b X.env) (λu s₂=>wpAny (model X.prog X.w) X.A (f v u) Q X.xe s₂) X.xe s₁) X.xe s:=by
  refine bU (ha pins s σ H _ I h) λv s1 ⟨x,H1,I1,r1,q1⟩=>?_
  refine bU (hb pins s1 σ H1 _ I1 q1) λu s2 ⟨y,H2,I2,r2,q2⟩=>?_
  exact hf v u s2 x y H2 I2 r1 r2 q2
theorem av {op:Operator}{r:R2}(ho:gC X (binaryOp op) r)(ha:PE X a ta)(hb:PE X b tb):PE X (.BinOp a op b pos) (n5 r ta tb):=by
 intro pins s σ H Q I h
 exact wpAny_BinOp (E3 ha hb I h λv u s2 x y H2 I2 rx ry q=>ho pins s2 σ H2 x y v u Q I2 rx ry q)
theorem mB {op:UnaryOp}{r:V→Hp→VK→Prop}(ho:Ir X (unaryOp op) r)(ha:PE X a ta):PE X (.UnaryOp op a pos) (JE r ta):=by
 intro pins s σ H Q I h
 exact UnaryOp_ (bU (ha pins s σ H _ I h) λv s1 ⟨x,H1,I1,r1,q1⟩=>ho pins s1 σ H1 x v Q I1 r1 q1)
theorem Jg {f:Value→Value→Sem Value}{C:Int→Int→Prop}{g:Int→Int→Int}
    (rule:∀(i j:Int) (t u:Tok) (s:Shared) (Q:Value→Shared→Prop) (E:Value→Shared→Prop),C i j→Q (.int (g i j) s.toks) { s with toks:=s.toks+1 }→wpAny (model X.prog X.w) X.A (f (.int i t) (.int j u)) Q E s) :
    gC X f (rI C λi j=>.int (g i j)):=by
  intro pins s σ H x y v u Q I rx ry h
  obtain⟨i,j,rfl,rfl,hc,q⟩:=h
  obtain⟨t,rfl⟩:=rx
  obtain⟨t',rfl⟩:=ry
  exact rule i j t t' s _ _ hc ⟨.int (g i j),H,I.tok _,⟨_,rfl⟩,q⟩
theorem Jh {f:Value→Value→Sem Value}{g:Int→Int→Int}
    (rule:∀(i j:Int) (t u:Tok) (s:Shared) (Q:Value→Shared→Prop) (E:Value→Shared→Prop),Q (.int (g i j) s.toks) { s with toks:=s.toks+1 }→wpAny (model X.prog X.w) X.A (f (.int i t) (.int j u)) Q E s) :
    gC X f (tX λi j=>.int (g i j)):=by
  intro pins s σ H x y v u Q I rx ry h
  obtain⟨i,j,rfl,rfl,q⟩:=h
  obtain⟨t,rfl⟩:=rx
  obtain⟨t',rfl⟩:=ry
  exact rule i j t t' s _ _ ⟨.int (g i j),H,I.tok _,⟨_,rfl⟩,q⟩
theorem CP {f:Value→Value→Sem Value}{g:Int→Int→Bool}
    (rule:∀(i j:Int) (t u:Tok) (s:Shared) (Q:Value→Shared→Prop) (E:Value→Shared→Prop),Q (.bool (g i j)) s→wpAny (model X.prog X.w) X.A (f (.int i t) (.int j u)) Q E s) :
    gC X f (tX λi j=>.bl (g i j)):=by
  intro pins s σ H x y v u Q I rx ry h
  obtain⟨i,j,rfl,rfl,q⟩:=h
  obtain⟨t,rfl⟩:=rx
  obtain⟨t',rfl⟩:=ry
  exact rule i j t t' s _ _ ⟨.bl (g i j),H,I,rfl,q⟩
theorem cS:gC X (binaryOp .Add) (tX λi j=>.int (i+j)):=Jh λ_ _ _ _ _ _ _ q=>add_int q
theorem ft:gC X (binaryOp .Sub) (tX λi j=>.int (i-j)):=Jh λ_ _ _ _ _ _ _ q=>sub_int q
theorem cp:gC X (binaryOp .Mod) (rI (λ_ j=>0<j) λi j=>.int (i%j)):=Jg λi j _ _ _ _ _ hc q=>by
 have h1:(0:Int)<j:=hc
 exact mod_int' (by omega) (by rw [Int.fmod_eq_emod_of_nonneg i (by omega)];exact q)
theorem KY {f:Value→Sem Value}{g:Int→Int}
    (rule:∀(i:Int) (t:Tok) (s:Shared) (Q:Value→Shared→Prop) (E:Value→Shared→Prop),Q (.int (g i) s.toks) { s with toks:=s.toks+1 }→wpAny (model X.prog X.w) X.A (f (.int i t)) Q E s) :
    Ir X f (rU λi=>.int (g i)):=by
  intro pins s σ H x v Q I rx h
  obtain⟨i,rfl,q⟩:=h
  obtain⟨t,rfl⟩:=rx
  exact rule i t s _ _ ⟨.int (g i),H,I.tok _,⟨_,rfl⟩,q⟩
theorem kG:Ir X (unaryOp .USub) (rU λi=>.int (-i)):=KY λ_ _ _ _ _ q=>neg_int q
end
noncomputable def oz:V→V→Bool
 | .cU,.cU=>true | .cU,.int _=>true | .int _,.cU=>true | .cU,.bl _=>true | .bl _,.cU=>true | .cU,.str _=>true | .str _,.cU=>true
 | .int _,.int _=>true | .bl _,.bl _=>true | .str _,.str _=>true | .qm _,.qm _=>true
 | .int _,.str _=>true | .str _,.int _=>true | .bl _,.str _=>true | .str _,.bl _=>true
 | _,_=>false
def Gx:R2:=λx y H Q=>oz x y=true∧Q (.bl (decide (x=y))) H
def Js:R2:=λx y H Q=>oz x y=true∧Q (.bl (!decide (x=y))) H
theorem BG {i j:Int}:decide (V.int i=V.int j)=(i == j):=by
 rw [Bool.eq_iff_iff]
 simp
theorem DI {i j:Bool}:decide (V.bl i=V.bl j)=(i == j):=by
 rw [Bool.eq_iff_iff]
 simp
theorem BH {i j:Str}:decide (V.str i=V.str j)=(i == j):=by
 rw [Bool.eq_iff_iff]
 simp
theorem BF {i j:Array UInt8}:decide (V.qm i=V.qm j)=(i.toList == j.toList):=by
 rw [Bool.eq_iff_iff]
 cases i
 cases j
 simp
section
variable {X:Cx}{a b c:Expr}{ta tb tc:TE}{pos:Pos}
theorem cF {pins:List (Addr×Obj)}{σ:St}{H:Hp}{s:Shared}{Q:VK}{k k':Bool}(I:Inv X pins σ H s)(q:Q (.bl k) H)(e:k=k'):EP X pins σ Q (.bool k') s:=by
 subst e
 exact⟨.bl k,H,I,rfl,q⟩
theorem cP:gC X (compareOp .Eq) Gx:=by
 intro pins s σ H x y v u Q I rx ry h
 obtain⟨hs,q⟩:=h
 cases x with
 | cU=>
  cases rx
  cases y with
  | cU=>cases ry;exact PySem.EqNone.eq_none_none (cF I q (by simp))
  | bl j=>cases ry;exact PySem.EqNone.eq_none_bool (cF I q (by simp))
  | int j=>obtain⟨t',rfl⟩:=ry;exact PySem.EqNone.eq_none_int (cF I q (by simp))
  | str j=>obtain⟨t',rfl⟩:=ry;exact PySem.EqNone.eq_none_str (cF I q (by simp))
  | _=>exact absurd (show false=true from hs) Bool.false_ne_true
 | bl i=>
  cases rx
  cases y with
  | cU=>cases ry;exact PySem.EqNone.eq_bool_none (cF I q (by simp))
  | bl j=>cases ry;exact eq_bool (cF I q DI)
  | str j=>obtain⟨t',rfl⟩:=ry;exact PySem.EqMixed.eq_bool_str (cF I q (by simp))
  | _=>exact absurd (show false=true from hs) Bool.false_ne_true
 | int i=>
  obtain⟨t,rfl⟩:=rx
  cases y with
  | cU=>cases ry;exact PySem.EqNone.eq_int_none (cF I q (by simp))
  | int j=>obtain⟨t',rfl⟩:=ry;exact eq_int (cF I q BG)
  | str j=>obtain⟨t',rfl⟩:=ry;exact PySem.EqMixed.eq_int_str (cF I q (by simp))
  | _=>exact absurd (show false=true from hs) Bool.false_ne_true
 | str i=>
  obtain⟨t,rfl⟩:=rx
  cases y with
  | cU=>cases ry;exact PySem.EqNone.eq_str_none (cF I q (by simp))
  | bl j=>cases ry;exact PySem.EqMixed.eq_str_bool (cF I q (by simp))
  | int j=>obtain⟨t',rfl⟩:=ry;exact PySem.EqMixed.eq_str_int (cF I q (by simp))
  | str j=>obtain⟨t',rfl⟩:=ry;exact eq_str (cF I q BH)
  | _=>exact absurd (show false=true from hs) Bool.false_ne_true
 | qm i=>
  obtain⟨t,rfl⟩:=rx
  cases y with
  | qm j=>obtain⟨t',rfl⟩:=ry;exact PySem.W.eq_bytes (cF I q BF)
  | _=>exact absurd (show false=true from hs) Bool.false_ne_true
 | _=>cases y<;>exact absurd (show false=true from hs) Bool.false_ne_true
theorem my:gC X (compareOp .NotEq) Js:=by
 intro pins s σ H x y v u Q I rx ry h
 obtain⟨hs,q⟩:=h
 cases x with
 | cU=>
  cases rx
  cases y with
  | cU=>cases ry;exact PySem.EqNone.ne_none_none (cF I q (by simp))
  | bl j=>cases ry;exact PySem.EqNone.ne_none_bool (cF I q (by simp))
  | int j=>obtain⟨t',rfl⟩:=ry;exact PySem.EqNone.ne_none_int (cF I q (by simp))
  | str j=>obtain⟨t',rfl⟩:=ry;exact PySem.EqNone.ne_none_str (cF I q (by simp))
  | _=>exact absurd (show false=true from hs) Bool.false_ne_true
 | bl i=>
  cases rx
  cases y with
  | cU=>cases ry;exact PySem.EqNone.ne_bool_none (cF I q (by simp))
  | bl j=>cases ry;exact ne_bool (cF I q (congrArg not DI))
  | str j=>obtain⟨t',rfl⟩:=ry;exact PySem.EqMixed.ne_bool_str (cF I q (by simp))
  | _=>exact absurd (show false=true from hs) Bool.false_ne_true
 | int i=>
  obtain⟨t,rfl⟩:=rx
  cases y with
  | cU=>cases ry;exact PySem.EqNone.ne_int_none (cF I q (by simp))
  | int j=>obtain⟨t',rfl⟩:=ry;exact ne_int (cF I q (congrArg not BG))
  | str j=>obtain⟨t',rfl⟩:=ry;exact PySem.EqMixed.ne_int_str (cF I q (by simp))
  | _=>exact absurd (show false=true from hs) Bool.false_ne_true
 | str i=>
  obtain⟨t,rfl⟩:=rx
  cases y with
  | cU=>cases ry;exact PySem.EqNone.ne_str_none (cF I q (by simp))
  | bl j=>cases ry;exact PySem.EqMixed.ne_str_bool (cF I q (by simp))
  | int j=>obtain⟨t',rfl⟩:=ry;exact PySem.EqMixed.ne_str_int (cF I q (by simp))
  | str j=>obtain⟨t',rfl⟩:=ry;exact ne_str (cF I q (congrArg not BH))
  | _=>exact absurd (show false=true from hs) Bool.false_ne_true
 | qm i=>
  obtain⟨t,rfl⟩:=rx
  cases y with
  | qm j=>obtain⟨t',rfl⟩:=ry;exact PySem.W.ne_bytes (cF I q (congrArg not BF))
  | _=>exact absurd (show false=true from hs) Bool.false_ne_true
 | _=>cases y<;>exact absurd (show false=true from hs) Bool.false_ne_true
theorem kz:gC X (compareOp .Lt) (tX λi j=>.bl (decide (i<j))):=CP λ_ _ _ _ _ _ _ q=>lt_int q
theorem Gu:gC X (compareOp .LtE) (tX λi j=>.bl (decide (i≤j))):=CP λ_ _ _ _ _ _ _ q=>le_int q
theorem lF:gC X (compareOp .Gt) (tX λi j=>.bl (decide (j<i))):=CP λ_ _ _ _ _ _ _ q=>gt_int q
theorem JX:gC X (compareOp .GtE) (tX λi j=>.bl (decide (j≤i))):=CP λ_ _ _ _ _ _ _ q=>ge_int q
theorem Ed:gC X (compareOp .In) (λx y H Q=>∃i j,x = .str i∧y = .str j∧Q (.bl (!(Builtin.Str.occurrences j i 0 j.length 1).isEmpty)) H):=by
 intro pins s σ H x y v u Q I rx ry h
 obtain⟨i,j,rfl,rfl,q⟩:=h
 obtain⟨t,rfl⟩:=rx
 obtain⟨t',rfl⟩:=ry
 exact in_str (cF I q rfl)
theorem vn:gC X (compareOp .Is) (λx y H Q=>y = .cU∧Q (.bl (decide (x = .cU))) H):=by
 intro pins s σ H x y v u Q I rx ry h
 obtain⟨rfl,q⟩:=h
 cases ry
 refine is_none_gen (cF I q ?_)
 cases x<;>first
  | (cases rx;rfl)
  | (obtain⟨t,rfl⟩:=rx;rfl)
theorem Hs:gC X (compareOp .IsNot) (λx y H Q=>y = .cU∧Q (.bl (!decide (x = .cU))) H):=by
 intro pins s σ H x y v u Q I rx ry h
 obtain⟨rfl,q⟩:=h
 cases ry
 refine isnot_none_gen (cF I q ?_)
 cases x<;>first
  | (cases rx;rfl)
  | (obtain⟨t,rfl⟩:=rx;rfl)
theorem aQ (b:Expr){op:CmpOp}(h:op≠.In:=by decide)(h2:op≠.NotIn:=by decide):behindInMarks op b=false:=by
 have e1:(op == CmpOp.In)=false:=by cases op<;>first | rfl | exact absurd rfl h
 have e2:(op == CmpOp.NotIn)=false:=by cases op<;>first | rfl | exact absurd rfl h2
 cases b<;>simp [behindInMarks,e1,e2]
theorem mH {op:CmpOp}{r:R2}(ho:gC X (compareOp op) r)(ha:PE X a ta)(hb:PE X b tb)(hm:behindInMarks op b=false):PE X (.Compare a [op] [b] pos) (n5 r ta tb):=by
 intro pins s σ H Q I h
 exact wpAny_Compare1 (E3 ha hb I h λv u s2 x y H2 I2 rx ry q=>ho pins s2 σ H2 x y v u Q I2 rx ry q) hm
def Dj (t:TE):TT:=λσ H Q=>t σ H λx H'=>∃k,x = .bl k∧Q k H'
theorem aF {op:CmpOp}{r:R2}(ho:gC X (compareOp op) r)(ha:PE X a ta)(hb:PE X b tb)(hm:behindInMarks op b=false):PT X (.Compare a [op] [b] pos) (Dj (n5 r ta tb)):=by
 intro pins s σ H Q I h
 refine wpAny_isTrue_Compare1 (bU (ha pins s σ H _ I h) λv s1 ⟨x,H1,I1,r1,q1⟩=>bU (hb pins s1 σ H1 _ I1 q1) λu s2 ⟨y,H2,I2,r2,q2⟩=>
  bU (ho pins s2 σ H2 x y v u _ I2 r1 r2 q2) λc s3 ⟨z,H3,I3,r3,k,e,q3⟩=>?_) hm
 subst e
 cases r3
 exact wpAny_truthy_bool ⟨H3,I3,q3⟩
theorem oQ:(sizeLine:Nat)<2^63:=by rw [sizeLine_eq];decide
theorem cO:gC X (binaryOp .Add) (λx y H Q=>∃i j,x = .str i∧y = .str j∧i.length+j.length≤sizeLine∧Q (.str (i++j)) H):=by
 intro pins s σ H x y v u Q I rx ry h
 obtain⟨i,j,rfl,rfl,hz,q⟩:=h
 obtain⟨t,rfl⟩:=rx
 obtain⟨t',rfl⟩:=ry
 exact add_str (λt' tk=>⟨.str (i++j),H,I.tok _,⟨_,rfl⟩,q⟩) hz
theorem vals1 {x:V}{us:List Value}(r:Vals [x] us):∃u,us=[u]∧RelV x u:=by
 cases r with
 | cons r1 r2=>cases r2;exact⟨_,rfl,r1⟩
theorem vals2 {x y:V}{us:List Value}(r:Vals [x,y] us):∃u w',us=[u,w']∧RelV x u∧RelV y w':=by
 cases r with
 | cons r1 r2=>
  cases r2 with
  | cons r3 r4=>cases r4;exact⟨_,_,rfl,r1,r3⟩
theorem E4:fz X (.builtin "abs") (λxs H Q=>∃i,xs=[.int i]∧Q (.int (if i<0 then -i else i)) H):=by
 intro pins s σ H xs us Q I r h
 obtain⟨i,rfl,q⟩:=h
 obtain⟨u,rfl,t,rfl⟩:=vals1 r
 exact call_abs_int λu tk=>⟨.int (if i<0 then -i else i),H,I.tok _,⟨_,rfl⟩,q⟩
theorem wR (hc:X.calm=true):fz X (.builtin "max") (λxs H Q=>∃i j,xs=[.int i,.int j]∧Q (.int (if j > i then j else i)) H):=by
 intro pins s σ H xs us Q I r h
 obtain⟨i,j,rfl,q⟩:=h
 obtain⟨u,w',rfl,⟨t,rfl⟩,⟨t',rfl⟩⟩:=vals2 r
 refine max_two_ints (I.ok.hd hc) λh' tk k=>⟨_,H,I.kept k,?_,q⟩
 by_cases hj:j > i
 ·rw [if_pos hj,if_pos hj];exact⟨_,rfl⟩
 ·rw [if_neg hj,if_neg hj];exact⟨_,rfl⟩
theorem Dz (hc:X.calm=true):fz X (.builtin "min") (λxs H Q=>∃i j,xs=[.int i,.int j]∧Q (.int (if j<i then j else i)) H):=by
 intro pins s σ H xs us Q I r h
 obtain⟨i,j,rfl,q⟩:=h
 obtain⟨u,w',rfl,⟨t,rfl⟩,⟨t',rfl⟩⟩:=vals2 r
 refine min_two_ints (I.ok.hd hc) λh' tk k=>⟨_,H,I.kept k,?_,q⟩
 by_cases hj:j<i
 ·rw [if_pos hj,if_pos hj];exact⟨_,rfl⟩
 ·rw [if_neg hj,if_neg hj];exact⟨_,rfl⟩
theorem Dv:fz X (.type "int") (λxs H Q=>(∃i,xs=[.int i]∧Q (.int i) H)∨∃k,xs=[.bl k]∧Q (.int (if k then 1 else 0)) H):=by
 intro pins s σ H xs us Q I r h
 rcases h with⟨i,rfl,q⟩|⟨k,rfl,q⟩
 ·obtain⟨u,rfl,t,rfl⟩:=vals1 r
  exact call_int_int ⟨.int i,H,I,⟨_,rfl⟩,q⟩
 ·obtain⟨u,rfl,r1⟩:=vals1 r
  cases r1
  exact call_int_bool ⟨.int (if k then 1 else 0),H,I.tok _,⟨_,rfl⟩,q⟩
theorem cj:fz X (.type "str") (λxs H Q=>∃i,xs=[.int i]∧i.natAbs.log2<1920∧Q (.str (toString i)) H):=by
 intro pins s σ H xs us Q I r h
 obtain⟨i,rfl,hz,q⟩:=h
 obtain⟨u,rfl,t,rfl⟩:=vals1 r
 exact PySem.P.str_of_int hz ⟨.str _,H,I.tok _,⟨_,rfl⟩,q⟩
end
open PySem PySem.Spec PyProof.Rows
structure tZ (h:Heap)(x dx C:Addr)(mA:Str→Option Value):Prop where
 obj:h.get? x=some (PySem.W.instObj C dx)
 ns:h.Ns1 dx mA
 ne:dx≠x
theorem D4 {h:Heap}{dx:Addr}{mA:Str→Option Value}(n:h.Ns1 dx mA):∃od,h.get? dx=some od∧∀name,PySem.W.lookIn name od=some (mA name):=by
 obtain⟨o,es,ep,ho,hd,hk,_,hm⟩:=n
 refine⟨o,ho,λname=>?_⟩
 have e:=hm name
 unfold nsFind findBy at e
 rw [←Array.find?_toList] at e
 unfold PySem.W.lookIn
 rw [hd]
 dsimp only
 split
 ·rename_i y q
  rw [q] at e
  exact congrArg some e
 ·rename_i q
  rw [q] at e
  have a:es.toList.any (·.refKey)=false:=by
   rw [List.any_eq_false]
   intro y hy
   obtain⟨z,t,hkey⟩:=hk y (Array.mem_toList_iff.mp hy)
   simp [DictEntry.refKey,hkey]
  have a':¬es.toList.any (·.refKey)=true:=by rw [a];exact Bool.false_ne_true
  rw [if_neg a']
  exact congrArg some e
theorem tZ.look {h:Heap}{x dx C:Addr}{mA:Str→Option Value}(I:tZ h x dx C mA):∃od,PySem.W.InstAt h x (PySem.W.instObj C dx) C (some od)∧∀name,PySem.W.lookIn name od=some (mA name):=
 let ⟨od,ho,hl⟩:=D4 I.ns
 ⟨od,⟨I.obj,rfl,rfl,ho⟩,hl⟩
section
variable {prog:Program}{w:World}{A:Around}{E:Value→Shared→Prop}{s:Shared}{K:PySem.W.Frag}{x dx C f:Addr}{mA:Str→Option Value}{name:Str}{v:Value}
theorem get_map {expr:Bool}{Q:Value→Shared→Prop}(X:K.In s.heap)(I:tZ s.heap x dx C mA)(hg:PySem.W.plainGet K C name=true)(hh:PySem.W.hasDictIn K C=true)
    (ha:PySem.W.findIn K (.ref C) name=some none) (hv:mA name=some v) (hv':PySem.W.handedIn v=true) (h:Q v { s with toks:=s.toks+1 }) :
    wpAny (model prog w) A (getAttr (.ref x) name expr) Q E s:=by
  obtain⟨od,J,hl⟩:=I.look
  exact PySem.W.get_value X J (PySem.W.plainGet_of hg).1 (PySem.W.findObj_own hh ha rfl (by rw [hl,hv])) hv' h
theorem Fj {pl:Sem Bool}{Q:Value×List Value→Shared→Prop}(X:K.In s.heap)(I:tZ s.heap x dx C mA)(hg:PySem.W.plainGet K C name=true)
    (hf:PySem.W.findIn K (.ref C) name=some (some (.ref f))) (ht:PySem.W.isFn K (.ref f)=true) (hv:mA name=none) (h:Q (.ref f,[.ref x]) s) :
    wpAny (model prog w) A (getMethod (.ref x) name pl) Q E s:=by
  obtain⟨od,J,hl⟩:=I.look
  exact PySem.W.method_fn X J (PySem.W.plainGet_of hg).1 (PySem.W.plainGet_of hg).2 hf (beq_iff_eq.mp ht) (by show (PySem.W.lookIn name od).map (·.isSome)=some false;rw [hl,hv];rfl) h
theorem HP {ns:List Str}{Q:Unit→Shared→Prop}(X:K.In s.heap)(I:tZ s.heap x dx C mA)
    (hs:PySem.W.findIn K (.ref C) "__setattr__"=some (some (.builtin "object.__setattr__"))) (hp:PySem.W.plainOver K C=true) (ht:PySem.W.takerIn K C name=some none) (hh:PySem.W.hasDictIn K C=true)
    (hw:PySem.Within mA ns) (hsz:ns.length≤sizeLine)
    (h:∀h',tZ h' x dx C (λy=>if y=name then some v else mA y)→Heap.SameBut dx s.heap h'→Q () { s with heap:=h',toks:=s.toks+2 }) :
    wpAny (model prog w) A (setAttr (.ref x) name v) Q E s:=by
  obtain⟨od,J,hl⟩:=I.look
  refine PySem.W.set_plain X J hs (PySem.W.osa_open (s:={ s with toks:=s.toks+1 }) (r:=none) X J hp ht λb=>?_)
  obtain⟨cd,hc,hd'⟩:=PySem.W.any_some hh
  have hx:s.heap.get? x=some ⟨.ref C,some dx,.plain,#[]⟩:=I.obj
  refine wpAny_bind (wpAny_pure (wpAny_bind (wpAny_bind (wpAny_loadPart hx (wpAny_bind (PySem.W.Looks.here (s:={ s with toks:=s.toks+1 }) (PySem.W.looks_clsIn X hc) ?_))))))
  rw [hd']
  refine wpAny_pure (a:=some dx) (wpAny_bind (wpAny_pure (wpAny_bind ?_)))
  refine wpAny_nsSet1 (s:={ s with toks:=s.toks+1 }) I.ns λh' hn2 hs2=>?_
  obtain⟨oD,esD,epD,hoD,hdD,hcD⟩:=hn2.count (PySem.Within.cons name v hw)
  refine wpAny_bind (wpAny_lookBehind hoD (by rw [hdD];exact pastItsLine_dict (Nat.le_trans hcD (by rw [List.length_cons];omega))) ?_)
  exact wpAny_pure (h _ ⟨(hs2.2 _ (Ne.symm I.ne)).trans I.obj,hn2,I.ne⟩ hs2)
theorem Fu {R:Result→Shared→Prop}{vs:List Value}{kw:List (Str×Value)}(X:K.In s.heap)(hm:PySem.W.makesIn K C=true)
    (hi:PySem.W.findIn K (.ref C) "__init__"=some (some (.ref f))) (hf:PySem.W.typeIn K (.ref f)=some (.type "function"))
    (h:codeAny (model prog w) (A.under (.builtin "type.__call__" ⟨.ref C::vs,kw⟩)) (.call (.ref f) ⟨.ref (s.heap.objs.size+1)::vs,kw⟩) (PySem.W.InitBack (s.heap.objs.size+1) R)
      { s with heap:=(s.heap.push PySem.W.emptyDict).push (PySem.W.instObj C s.heap.objs.size) }) :
    codeAny (model prog w) A (.call (.ref C) ⟨vs,kw⟩) R s:=by
  obtain⟨hh,g,d,t,os⟩:=s
  exact PySem.W.make_core (PySem.W.makes_of X hm) (PySem.W.looks_findIn X hi) (λself=>PySem.W.bind_fn X self hf) (.inl rfl) h
end
noncomputable def jC (f:Str)(v:V):List (Str×V)→List (Str×V)
 | []=>[(f,v)]
 | (g,x)::r=>if g=f then (g,v)::r else (g,x)::jC f v r
theorem tU (f g:Str)(v:V):∀fs:List (Str×V),(jC f v fs).lookup g=if g=f then some v else fs.lookup g
 | []=>by
  show List.lookup g [(f,v)]=_
  by_cases h:g=f
  ·have hb:(g == f)=true:=beq_iff_eq.mpr h
   simp only [List.lookup,hb,if_pos h]
  ·have hb:(g == f)=false:=beq_eq_false_iff_ne.mpr h
   simp only [List.lookup,hb,if_neg h]
 | (k,x)::r=>by
  have ih:=tU f g v r
  rw [show jC f v ((k,x)::r)=(if k=f then (k,v)::r else (k,x)::jC f v r) from rfl]
  by_cases hk:k=f
  ·rw [if_pos hk]
   by_cases h:g=k
   ·have hb:(g == k)=true:=beq_iff_eq.mpr h
    simp only [List.lookup,hb,if_pos (h.trans hk)]
   ·have hb:(g == k)=false:=beq_eq_false_iff_ne.mpr h
    simp only [List.lookup,hb,if_neg (λe:g=f=>h (e.trans hk.symm))]
  ·rw [if_neg hk]
   by_cases h:g=k
   ·have hb:(g == k)=true:=beq_iff_eq.mpr h
    simp only [List.lookup,hb,if_neg (λe:g=f=>hk (h.symm.trans e))]
   ·have hb:(g == k)=false:=beq_eq_false_iff_ne.mpr h
    simp only [List.lookup,hb]
    exact ih
theorem rz (f:Str)(v:V):∀fs:List (Str×V),f∈(jC f v fs).map (·.1)∧∀g,g∈fs.map (·.1)→g∈(jC f v fs).map (·.1)
 | []=>⟨by simp [jC],λg h=>by simp at h⟩
 | (k,x)::r=>by
  obtain⟨i1,i2⟩:=rz f v r
  rw [show jC f v ((k,x)::r)=(if k=f then (k,v)::r else (k,x)::jC f v r) from rfl]
  by_cases hk:k=f
  ·rw [if_pos hk]
   subst hk
   exact⟨by simp,λg h=>by simpa using h⟩
  ·rw [if_neg hk]
   refine⟨?_,λg h=>?_⟩
   ·rw [List.map_cons]
    exact List.mem_cons_of_mem _ i1
   ·rw [List.map_cons] at h ⊢
    rcases List.mem_cons.mp h with e|e
    ·exact List.mem_cons.mpr (.inl e)
    ·exact List.mem_cons_of_mem _ (i2 g e)
theorem tS (f:Str)(v:V):∀fs:List (Str×V),(jC f v fs).length≤fs.length+1
 | []=>by simp [jC]
 | (k,x)::r=>by
  have ih:=tS f v r
  rw [show jC f v ((k,x)::r)=(if k=f then (k,v)::r else (k,x)::jC f v r) from rfl]
  by_cases hk:k=f
  ·rw [if_pos hk,List.length_cons,List.length_cons];omega
  ·rw [if_neg hk,List.length_cons,List.length_cons];omega
theorem iV.some_of {v:V}{o:Option Value}(r:iV (some v) o):∃u,o=some u∧RelV v u:=by
 cases o with
 | none=>exact (show False from r).elim
 | some u=>exact⟨u,rfl,r⟩
theorem iV.none_of {o:Option Value}(r:iV none o):o=none:=by
 cases o with
 | none=>rfl
 | some u=>exact (show False from r).elim
theorem DU {v:V}{u:Value}(r:RelV v u):PySem.W.handedIn u=true:=by
 cases v with
 | cU=>cases (show u=Value.none from r);rfl
 | bl b=>cases (show u=Value.bool b from r);rfl
 | int i=>obtain⟨t,e⟩:=(show ∃t,u=Value.int i t from r);cases e;rfl
 | str x=>obtain⟨t,e⟩:=(show ∃t,u=Value.str x t from r);cases e;rfl
 | qm b=>obtain⟨t,e⟩:=(show ∃t,u=Value.bytes b t from r);cases e;rfl
 | yM b=>obtain⟨t,e⟩:=(show ∃t,u=Value.float b t from r);cases e;rfl
 | ref a=>cases (show u=Value.ref a from r);rfl
 | ty n=>cases (show u=Value.type n from r);rfl
section
variable {P:Program}{w:World}{H H':Hp}{h h':Heap}{a C dx:Addr}{fs fs':List (Str×V)}
theorem sv (bb:e7 P w H h)(e:H a=some (.ins C dx fs)):∃mA,tZ h a dx C mA∧(∀f,iV (fs.lookup f) (mA f))∧PySem.Within mA (fs.map (·.1))∧fs.length≤1000∧H dx=some (.own a):=by
 obtain⟨d,z,ne,ob,mA,n,r,q⟩:=(show cT P w H h a (.ins C dx fs) from bb a _ e)
 exact⟨mA,⟨ob,n,ne⟩,r,q,z,d⟩
end
structure oB (K:PySem.W.Frag)(C:Addr):Prop where
 pg:PySem.W.plainGet K C Str.empty=true
 hd:PySem.W.hasDictIn K C=true
 po:PySem.W.plainOver K C=true
 sa:PySem.W.findIn K (.ref C) "__setattr__"=some (some (.builtin "object.__setattr__"))
theorem oB.get {K:PySem.W.Frag}{C:Addr}(c:oB K C)(f:Str):PySem.W.plainGet K C f=true:=c.pg
def jH (K:PySem.W.Frag)(C:Addr)(f:Str):Prop:=PySem.W.findIn K (.ref C) f=some none
theorem jH.J8 {K:PySem.W.Frag}{C:Addr}{f:Str}(n:jH K C f):PySem.W.takerIn K C f=some none:=by
 unfold PySem.W.takerIn
 rw [show PySem.W.findIn K (.ref C) f=some none from n]
 rfl
structure Meth (K:PySem.W.Frag)(C:Addr)(m:Str)(f:Addr):Prop where
 at_:PySem.W.findIn K (.ref C) m=some (some (.ref f))
 fn:PySem.W.isFn K (.ref f)=true
 kp:PySem.W.keepIn K (.ref f)=true
section
variable {X:Cx}{pins:List (Addr×Obj)}{σ:St}{H:Hp}{s:Shared}{a C dx:Addr}{fs:List (Str×V)}{f:Str}{v:V}{A:Around}{E:Value→Shared→Prop}
theorem CD {b:Bool}{Q:Value→Shared→Prop}(I:Inv X pins σ H s)(e:H a=some (.ins C dx fs))(c:oB X.K C)(n:jH X.K C f)(l:fs.lookup f=some v)
    (h:∀u s',Inv X pins σ H s'→RelV v u→Q u s'):wpAny (model X.prog X.w) A (getAttr (.ref a) f b) Q E s:=by
  obtain⟨mA,O,r,_,_,_⟩:=sv I.bb e
  obtain⟨u,hu,ru⟩:=iV.some_of (v:=v) (o:=mA f) (by rw [←l];exact r f)
  exact get_map I.fA O (c.get f) c.hd n hu (DU ru) (h u _ (I.tok _) ru)
theorem u6 {m:Str}{g:Addr}{pl:Sem Bool}{Q:Value×List Value→Shared→Prop}(I:Inv X pins σ H s)(e:H a=some (.ins C dx fs))(c:oB X.K C)(k:Meth X.K C m g)(l:fs.lookup m=none)
    (h:Q (.ref g,[.ref a]) s):wpAny (model X.prog X.w) A (getMethod (.ref a) m pl) Q E s:=by
  obtain⟨mA,O,r,_,_,_⟩:=sv I.bb e
  have hn:mA m=none:=iV.none_of (by rw [←l];exact r m)
  exact Fj I.fA O (c.get m) k.at_ k.fn hn h
theorem C0 {y:V}{u:Value}{Q:Unit→Shared→Prop}(I:Inv X pins σ H s)(e:H a=some (.ins C dx fs))(c:oB X.K C)(n:jH X.K C f)(hl:fs.length<1000)(ry:RelV y u)
    (h:∀s',Inv X pins σ (upd H a (.ins C dx (jC f y fs))) s'→Q () s'):wpAny (model X.prog X.w) A (setAttr (.ref a) f u) Q E s:=by
  obtain⟨mA,O,r,wi,_,ho⟩:=sv I.bb e
  have hz:(fs.map (·.1)).length≤sizeLine:=by rw [List.length_map,sizeLine_eq];omega
  refine HP I.fA O c.sa c.po n.J8 c.hd wi hz λh' O' sb=>h _ ?_
  have hd:∃o,h'.get? dx=some o:=let ⟨o,_,_,e',_⟩:=O'.ns;⟨o,e'⟩
  refine I.write (x:=a) (e:=dx) (by rw [e];exact True.intro) (.inr ho) (λb q hb z=>(sb.2 b hb).trans z) hd ?_
  refine⟨by rw [aI O.ne];exact ho,?_,O.ne,O'.obj,_,O'.ns,λg=>?_,λg hg=>?_⟩
  · have:=tS f y fs;omega
  · show iV ((jC f y fs).lookup g) (if g=f then some u else mA g)
    rw [tU]
    by_cases q:g=f
    · rw [if_pos q,if_pos q];exact ry
    · rw [if_neg q,if_neg q];exact r g
  · by_cases q:g=f
    · rw [q];exact (rz f y fs).1
    · refine (rz f y fs).2 g (wi g λz=>hg ?_)
      show (if g=f then some u else mA g)=none
      rw [if_neg q];exact z
theorem Inv.made (I:Inv X pins σ H s):Inv X pins σ (upd (upd H s.heap.objs.size (.own (s.heap.objs.size+1))) (s.heap.objs.size+1) (.ins C s.heap.objs.size []))
    { s with heap:=(s.heap.push PySem.W.emptyDict).push (PySem.W.instObj C s.heap.objs.size) }:=by
  have e1:(s.heap.push PySem.W.emptyDict).get? s.heap.objs.size=some PySem.W.emptyDict:=Heap.get?_push_size s.heap rfl
  have e2:((s.heap.push PySem.W.emptyDict).push (PySem.W.instObj C s.heap.objs.size)).get? (s.heap.objs.size+1)=some (PySem.W.instObj C s.heap.objs.size):=by
    have:=Heap.get?_push_size (s.heap.push PySem.W.emptyDict) (o:=PySem.W.instObj C s.heap.objs.size) rfl
    rwa [Heap.size_push] at this
  have e3:(s.heap.push PySem.W.emptyDict).Ns s.heap.objs.size (λ_=>none):=⟨PySem.W.emptyDict,#[],_,e1,rfl,(λe he=>absurd he (by simp)),λ_=>rfl⟩
  have I1:=I.laid (a:=s.heap.objs.size) (o:=.own (s.heap.objs.size+1)) (h':=s.heap.push PySem.W.emptyDict) (t':=s.toks) (λb u q=>Heap.get?_push_of_some _ q) (Nat.le_refl _) ⟨_,e1⟩
  refine I1.laid (a:=s.heap.objs.size+1) (o:=.ins C s.heap.objs.size []) (t':=s.toks) (λb u q=>Heap.get?_push_of_some _ q) (Nat.le_of_eq (Heap.size_push _ _)) ?_
  have ne:s.heap.objs.size≠s.heap.objs.size+1:=Nat.ne_of_lt (Nat.lt_succ_self _)
  refine⟨by rw [aI ne,aS],Nat.zero_le _,ne,e2,λ_=>none,(Heap.Ns1.of_empty e3).at λo q=>Heap.get?_push_of_some _ q,λ_=>True.intro,λy hy=>absurd rfl hy⟩
theorem G6 {prog:Program}{w:World}{env:Env}{e:Expr}{f:Str}{pos:Pos}{s:Shared}{Q:Value→Shared→Prop}(hb:attributeBase e f env (eval e env)=eval e env)
    (h:wpAny (model prog w) A (eval e env) (λo s₁=>wpAny (model prog w) A (getAttr o f true) Q E s₁) E s):wpAny (model prog w) A (eval (.Attribute e f pos) env) Q E s:=
  Attribute_any_ h (by rw [arm_eval_Attribute,hb])
end
def FX (K:PySem.W.Frag)(ta:TE)(f:Str):TE:=λσ H Q=>ta σ H λx H1=>∃a C dx fs v,x = .ref a∧H1 a=some (.ins C dx fs)∧oB K C∧jH K C f∧fs.lookup f=some v∧Q v H1
def FP (K:PySem.W.Frag)(ta tv:TE)(f:Str):TS:=λD σ H=>tv σ H λy H1=>ta σ H1 λx H2=>∃a C dx fs,x = .ref a∧H2 a=some (.ins C dx fs)∧oB K C∧jH K C f∧fs.length<1000 ∧
 D.nx σ (upd H2 a (.ins C dx (jC f y fs)))
section
variable {X:Cx}{o e value:Expr}{f:Str}{pos pos' tpos:Pos}{ta tv:TE}
theorem oW (he:PE X e ta)(hb:attributeBase e f X.env (eval e X.env)=eval e X.env):PE X (.Attribute e f pos) (FX X.K ta f):=by
 intro pins s σ H Q I h
 refine G6 hb (bU (he pins s σ H _ I h) λu s1 ⟨x,H1,I1,rx,a,C,dx,fs,v,ex,ea,c,n,l,q⟩=>?_)
 subst ex
 obtain rfl:u=Value.ref a:=rx
 exact CD I1 ea c n l λu' s2 I2 ru=>⟨v,H1,I2,ru,q⟩
theorem Et (ha:PE X o ta)(hv:PE X value tv)(hs:swapsWith value (some (.Attribute o f pos')) pos.line X.env=pure false):PS X (.Assign [.Attribute o f pos'] value pos) (FP X.K ta tv f):=by
 intro pins s σ H D I h
 refine plainObj_wpAny_Assign_Attribute (bU (hv pins s σ H _ I h) λu s1 ⟨y,H1,I1,ry,q⟩=>bU (ha pins s1 σ H1 _ I1 q) λov s2 ⟨x,H2,I2,rx,a,C,dx,fs,ex,ea,c,n,l,q2⟩=>?_) hs
 subst ex
 obtain rfl:ov=Value.ref a:=rx
 exact C0 I2 ea c n l ry λs3 I3=>⟨σ,_,I3,q2⟩
end
section
variable {X:Cx}{pins:List (Addr×Obj)}{σ:St}{H:Hp}{s:Shared}{A:Around}{E:Value→Shared→Prop}{Q:Value→Shared→Prop}{c:Value}{b:Bool}
inductive kM (K:PySem.W.Frag)(H:Hp):V→Value→Prop where
  | cU:kM K H .cU (.type "NoneType")
  | bl (x:Bool):kM K H (.bl x) (.type "bool")
  | int (i:Int):kM K H (.int i) (.type "int")
  | str (x:Str):kM K H (.str x) (.type "str")
  | yM (x:UInt64):kM K H (.yM x) (.type "float")
  | lst {a:Addr} {xs:List V} (e:H a=some (.lst xs)):kM K H (.ref a) (.type "list")
  | mZ {a:Addr} {o:Obj} {xs:List V} (e:H a=some (.mZ o (.lst xs))):kM K H (.ref a) (.type "list")
  | tup {a:Addr} {xs:List V} (e:H a=some (.tup xs)):kM K H (.ref a) (.type "tuple")
  | dK {a:Addr} {kvs:List (Key×V)} (e:H a=some (.dK kvs)):kM K H (.ref a) (.type "dict")
  | dT {a:Addr} {kvs:List (List Key×V)} (e:H a=some (.dT kvs)):kM K H (.ref a) (.type "dict")
  | ins {a C dx:Addr} {fs:List (Str×V)} (e:H a=some (.ins C dx fs)) (cl:oB K C) (ha:PySem.W.findIn K (.ref C) "__class__"=some (some (.builtin "object.__class__")))
      (hn:PySem.W.specialIn K (.builtin "object.__class__") "__get__"=some (some (.builtin "getset_descriptor.__get__"))) (htk:PySem.W.takesIn K (.builtin "object.__class__")=some true)
      (hm:PySem.W.mroIn K C (.type "object")=some true):kM K H (.ref a) (.ref C)
theorem DY {x:V}{u t:Value}(I:Inv X pins σ H s)(rx:RelV x u)(ty:kM X.K H x t)(e:PySem.W.kitOne X.K t c=some b)(h:∀tk,Q (.bool b) { s with toks:=tk }) :
    wpAny (model X.prog X.w) A (call (.builtin "isinstance") [u,c]) Q E s:=by
  cases ty with
  | cU=>cases (show u=Value.none from rx);exact PySem.W.kia_one PySem.W.kitx_none I.fA True.intro e (λz=>nomatch z) h
  | bl y=>cases (show u=Value.bool y from rx);exact PySem.W.kia_one PySem.W.kitx_bool I.fA True.intro e (λz=>nomatch z) h
  | int i=>obtain⟨t,q⟩:=(show ∃t,u=Value.int i t from rx);cases q;exact PySem.W.kia_one PySem.W.kitx_int I.fA True.intro e (λz=>nomatch z) h
  | str y=>obtain⟨t,q⟩:=(show ∃t,u=Value.str y t from rx);cases q;exact PySem.W.kia_one PySem.W.kitx_str I.fA True.intro e (λz=>nomatch z) h
  | yM y=>obtain⟨t,q⟩:=(show ∃t,u=Value.float y t from rx);cases q;exact PySem.W.kia_one PySem.W.kitx_float I.fA True.intro e (λz=>nomatch z) h
  | @lst a xs ea=>
    cases (show u=Value.ref a from rx)
    obtain⟨_,_,n,_,h1⟩:=(show cT X.prog X.w H s.heap a (.lst xs) from I.bb a _ ea)
    exact PySem.W.kia_one PySem.W.kitx_list I.fA ⟨_,h1,rfl⟩ e (λz=>nomatch z) h
  | @mZ a ob xs ea=>
    cases (show u=Value.ref a from rx)
    obtain⟨_,_,_,n,_,h1⟩:=(show cT X.prog X.w H s.heap a (.mZ ob (.lst xs)) from I.bb a _ ea)
    exact PySem.W.kia_one PySem.W.kitx_list I.fA ⟨_,h1,rfl⟩ e (λz=>nomatch z) h
  | @tup a xs ea=>
    cases (show u=Value.ref a from rx)
    obtain⟨_,_,_,p⟩:=(show cT X.prog X.w H s.heap a (.tup xs) from I.bb a _ ea)
    obtain⟨o,h1,h2,_⟩:=p
    exact PySem.W.kia_one PySem.W.kitx_tuple I.fA ⟨o,h1,h2⟩ e (λz=>nomatch z) h
  | @dK a kvs ea=>
    cases (show u=Value.ref a from rx)
    obtain⟨_,_,vs,_,p⟩:=(show cT X.prog X.w H s.heap a (.dK kvs) from I.bb a _ ea)
    obtain⟨o,es,ep,h1,h2,_⟩:=p
    exact PySem.W.kia_one PySem.W.kitx_dict I.fA ⟨o,h1,h2.1⟩ e (λz=>nomatch z) h
  | @dT a kvs ea=>
    cases (show u=Value.ref a from rx)
    obtain⟨_,_,xs,_,o,es,ep,h1,h2,_⟩:=(show cT X.prog X.w H s.heap a (.dT kvs) from I.bb a _ ea)
    exact PySem.W.kia_one PySem.W.kitx_dict I.fA ⟨o,h1,h2.1⟩ e (λz=>nomatch z) h
  | @ins a C dx fs ea cl ha hn htk hm=>
    cases (show u=Value.ref a from rx)
    obtain⟨mA,O,_⟩:=sv I.bb ea
    obtain⟨od,J,_⟩:=O.look
    exact PySem.W.kia_one (PySem.W.kitx_own (cl.get _) cl.hd ha hn htk hm) I.fA J e (λz=>nomatch z) h
end
open PySem PySem.Spec PyProof.Rows
structure en (k:Nat)(A:Around):Prop where
 hd:A.handled=none
 dp:A.depth+3*k+5<recursionLimit
 un:A.units+16*k+200<cLine
theorem en.mono {j k:Nat}{A:Around}(r:en k A)(h:j≤k):en j A:=⟨r.hd,by have:=r.dp;omega,by have:=r.un;omega⟩
theorem en.deeper {k:Nat}{A:Around}(r:en (k+1) A)(env:Env):en k (A.deeper env):=
 ⟨r.hd,by have:=r.dp;show A.depth+1+3*k+5<_;omega,by have:=r.un;show A.units+3+16*k+200<_;omega⟩
theorem CJ {A:Around}{C:Addr}{us:List Value}{kw:List (Str×Value)}:(A.under (.builtin "type.__call__" ⟨.ref C::us,kw⟩)).depth=A.depth+1:=by
 first | rfl | simp [Around.under,Code.weight,Code.isCreation,Code.isGuard,Code.isCaller,Code.frames,Code.isFrame,guardIds]
theorem CK {A:Around}{C:Addr}{us:List Value}{kw:List (Str×Value)}:(A.under (.builtin "type.__call__" ⟨.ref C::us,kw⟩)).units=A.units+1:=by
 first | rfl | simp [Around.under,Code.cUnits,Code.frames,Code.isFrame]
theorem en.make {k:Nat}{A:Around}(r:en (k+1) A)(C:Addr)(us:List Value)(kw:List (Str×Value)):en k (A.under (.builtin "type.__call__" ⟨.ref C::us,kw⟩)):=
 ⟨r.hd,by have:=r.dp;rw [CJ];omega,by have:=r.un;rw [CK];omega⟩
theorem en.depth {k:Nat}{A:Around}(r:en k A):A.depth<recursionLimit:=by have:=r.dp;omega
theorem en.units {k:Nat}{A:Around}(r:en k A):A.units+64<cLine:=by have:=r.un;omega
def pX:TA:=λ_ H Q=>Q [] H
def C7 (ta:TE)(tr:TA):TA:=λσ H Q=>ta σ H λx H1=>tr σ H1 λxs H2=>Q (x::xs) H2
section
variable {X:Cx}{e:Expr}{es:List Expr}{te:TE}{t:TA}{pos:Pos}
theorem ae:PA X [] pX:=λ_ _ _ _ H Q I h=>Calls.spliced_nil ⟨[],H,I,.nil,h⟩
theorem aa (ha:PE X e te)(hr:PA X es t)(hs:starEach (e::es) X.env=(false,eval e X.env)::starEach es X.env:=by rfl):PA X (e::es) (C7 te t):=by
 intro pos pins s σ H Q I h
 rw [hs]
 show wpAny _ _ (spliced ((false,eval e X.env)::backTo pos (starEach es X.env))) _ _ s
 refine Calls.spliced_cons (bU (ha pins s σ H _ I h) λu s1 ⟨x,H1,I1,r1,q1⟩=>?_)
 exact bU (hr pos pins s1 σ H1 _ I1 q1) λus s2 ⟨xs,H2,I2,r2,q2⟩=>⟨x::xs,H2,I2,.cons r1 r2,q2⟩
def Gd (t:TA):TE:=λσ H Q=>t σ H λxs H1=>xs.length≤sizeLine∧∀p,H1 p=none→Q (.ref p) (upd H1 p (.tup xs))
def De (t:TA):TE:=λσ H Q=>t σ H λxs H1=>xs.length≤sizeLine∧∀p,H1 p=none→Q (.ref p) (upd H1 p (.lst xs))
theorem kC {x1}(h:PA X es t):PE X (.Tuple es x1 pos) (Gd t):=by
 intro pins s σ H Q I hq
 refine wpAny_Tuple_spliced (bU (h pos pins s σ H _ I hq) λus s1 ⟨xs,H1,I1,r,z,q⟩=>⟨by rw [←r.length];exact z,?_⟩)
 have hf:H1 s1.heap.objs.size=none:=I1.bb.fresh (Nat.le_refl _)
 refine⟨.ref s1.heap.objs.size,upd H1 s1.heap.objs.size (.tup xs),I1.laid (t':=s1.toks) (λb u e=>Heap.get?_push_of_some _ e) (Nat.le_refl _) ?_,rfl,q _ hf⟩
 exact⟨z,us,r,⟨_,Heap.get?_push_size _ rfl,rfl,_,rfl⟩⟩
theorem dS (h:PA X es t):PE X (.List es pos) (De t):=by
 intro pins s σ H Q I hq
 refine wpAny_List_spliced (bU (h pos pins s σ H _ I hq) λus s1 ⟨xs,H1,I1,r,z,q⟩=>⟨by rw [←r.length];exact z,?_⟩)
 have hf:H1 s1.heap.objs.size=none:=I1.bb.fresh (Nat.le_refl _)
 refine⟨.ref s1.heap.objs.size,upd H1 s1.heap.objs.size (.lst xs),I1.laid (t':=s1.toks) (λb u e=>Heap.get?_push_of_some _ e) (Nat.le_refl _) ?_,rfl,q _ hf⟩
 exact⟨z,us,0,r,Heap.get?_push_size _ rfl⟩
end
abbrev Sp:=List V→Hp→VK→XK→Prop
abbrev jy:=List Env→Hp→Shared→XK→Value→Shared→Prop
structure tY (P:Program)(w:World)(K:PySem.W.Frag)(mg:Str→Option Value)(base:Heap)(A:Around)(outer:List Env)(s:Shared)(H:Hp):Prop where
 frames:A.frames=some outer
 mod:Mod K mg base
 bs:∀b o,base.get? b=some o→s.heap.get? b=some o∧H b=none
 nM:base.objs.size≤s.heap.objs.size
 i4:s.heap.FunFrames base outer
 qo:∀b∈dR outer,H b=none
 bb:e7 P w H s.heap
 bare:AllBare s.gens
def CE (outer:List Env)(P:Program)(w:World)(H:Hp)(s:Shared)(Q:VK)(u:Value)(s':Shared):Prop:=
 ∃v H',s'.os=s.os∧AllBare s'.gens∧Un (dR outer) [] H H' s.heap s'.heap∧e7 P w H' s'.heap∧RelV v u∧Q v H'
def CR (CX:jy)(outer:List Env)(P:Program)(w:World)(H:Hp)(s:Shared)(Q:VK)(E:XK)(r:Result)(s':Shared):Prop:=
 match r with
 | .ok (.ret u)=>CE outer P w H s Q u s'
 | .ok _=>False
 | .error e=>CX outer H s E e s'
structure bc (P:Program)(w:World)(K:PySem.W.Frag)(mg:Str→Option Value)(base:Heap)(CX:jy)(k:Nat)(f:Addr)(fd:FuncData)(ps:List Str)(sp:Sp):Prop where
 len:∀vs H Q E,sp vs H Q E→vs.length=ps.length
 run:∀(A:Around) (outer:List Env) (s:Shared) (H:Hp) (args:Args) (us:List Value) (vs:List V) (Q:VK) (E:XK),en k A→tY P w K mg base A outer s H→BindsTo s fd args (ps.zip us)→Vals vs us→sp vs H Q E →
  codeAny (model P w) A (.call (.ref f) args) (CR CX outer P w H s Q E) s
theorem bc.mono {P:Program}{w:World}{K:PySem.W.Frag}{mg:Str→Option Value}{base:Heap}{CX:jy}{j k:Nat}{f:Addr}{fd:FuncData}{ps:List Str}{sp:Sp}(F:bc P w K mg base CX j f fd ps sp)(h:j≤k) :
    bc P w K mg base CX k f fd ps sp:=⟨F.len,λA outer s H args us vs Q E hr=>F.run A outer s H args us vs Q E (hr.mono h)⟩
theorem tY.make {P:Program}{w:World}{K:PySem.W.Frag}{mg:Str→Option Value}{base:Heap}{A:Around}{outer:List Env}{s:Shared}{H:Hp}(e:tY P w K mg base A outer s H)(C:Addr)(us:List Value)(kw:List (Str×Value)) :
    tY P w K mg base (A.under (.builtin "type.__call__" ⟨.ref C::us,kw⟩)) outer s H:=⟨by first | exact e.frames | (simpa [Around.under,Code.envs,Code.isFrame,pushEnvs] using e.frames),e.mod,e.bs,e.nM,e.i4,e.qo,e.bb,e.bare⟩
section
variable {X:Cx}{pins:List (Addr×Obj)}{σ:St}{H:Hp}{s s':Shared}
theorem Inv.CA (I:Inv X pins σ H s):tY X.prog X.w X.K X.mg X.base X.A X.stack s H:=
 ⟨I.ok.frames,I.ok.mod,I.bs,Nat.le_trans I.ok.nM I.sz,I.stack,I.pb,I.bb,I.bare⟩
theorem Inv.after {Q:VK}{u:Value}(I:Inv X pins σ H s)(h:CE X.stack X.prog X.w H s Q u s'):EP X pins σ Q u s':=by
 obtain⟨v,H',os,bare,un,bb,r,q⟩:=h
 obtain⟨hh,g,d,t,os'⟩:=s'
 obtain rfl:os'=s.os:=os
 exact⟨v,H',I.call (h':=hh) (g':=g) (d':=d) (t':=t) (ch:=[]) un bb bare (λb z=>absurd z (by simp)),r,q⟩
end
def vF (sp:Sp)(dvs:List V)(E:XK)(t:TA):TE:=λσ H Q=>t σ H λvs H1=>sp (vs++dvs) H1 Q E
def yg (C:Addr)(m:Str)(sp:Sp)(dvs:List V)(E:XK)(ta:TE)(t:TA):TE:=λσ H Q=>ta σ H λx H1=>∃a dx fs,x = .ref a∧H1 a=some (.ins C dx fs)∧fs.lookup m=none ∧
 t σ H1 λvs H2=>sp (x::(vs++dvs)) H2 Q E
def yf (C:Addr)(sp:Sp)(dvs:List V)(E:XK)(t:TA):TE:=λσ H Q=>t σ H λvs H1=>∀x dx,H1 x=none→H1 dx=none→dx≠x →
 sp (.ref x::(vs++dvs)) (upd (upd H1 dx (.own x)) x (.ins C dx [])) (λv H2=>v = .cU∧Q (.ref x) H2) E
def Binds (K:PySem.W.Frag)(fd:FuncData)(ps:List Str)(ds:List Value):Prop:=
 ∀(s:Shared) (us:List Value),K.In s.heap→(us++ds).length=ps.length→BindsTo s fd ⟨us,[]⟩ (ps.zip (us++ds))
theorem Binds.all {K:PySem.W.Frag}{fd:FuncData}{ps:List Str}(h:∀us:List Value,us.length=ps.length→bindArgs fd ⟨us,[]⟩=pure (ps.zip us)):Binds K fd ps []:=λs us _ hl=>by
 rw [List.append_nil] at hl ⊢
 exact .of_eq (h us hl)
def Passes (CX:jy)(X:Cx)(E:XK):Prop:=∀(pins:List (Addr×Obj)) (σ:St) (H:Hp) (s:Shared) (e:Value) (s':Shared),Inv X pins σ H s→CX X.stack H s E e s'→X.xe e s'
section
variable {X:Cx}{CX:jy}{k:Nat}{f C:Addr}{fd:FuncData}{ps:List Str}{sp:Sp}{dvs:List V}{ds:List Value}{E:XK}{x m:Str}{p pos apos:Pos}{e o:Expr}{es:List Expr}{ta:TE}{t:TA}
theorem zS {pins:List (Addr×Obj)}{σ:St}{H:Hp}{s:Shared}{Q:VK}{us:List Value}{vs:List V}(F:bc X.prog X.w X.K X.mg X.base CX k f fd ps sp)(hr:en k X.A)(hb:Binds X.K fd ps ds)(hd:Vals dvs ds)(hx:Passes CX X E)
    (I:Inv X pins σ H s) (r:Vals vs us) (h:sp (vs++dvs) H Q E):wpAny (model X.prog X.w) X.A (call (.ref f) us) (EP X pins σ Q) X.xe s:=by
  have r2:Vals (vs++dvs) (us++ds):=r.append hd
  have hl:(us++ds).length=ps.length:=by rw [←r2.length];exact F.len _ _ _ _ h
  refine wpAny_call (codeAny_mono (F.run X.A X.stack s H ⟨us,[]⟩ (us++ds) (vs++dvs) Q E hr I.CA (hb s us I.fA hl) r2 h) λr s' hq=>?_)
  cases r with
  | error e=>exact hx pins σ H s e s' I hq
  | ok fl=>
    cases fl with
    | ret u=>exact I.after hq
    | next=>exact False.elim hq
    | brk=>exact False.elim hq
    | cont=>exact False.elim hq
theorem BS (F:bc X.prog X.w X.K X.mg X.base CX k f fd ps sp)(hr:en k X.A)(hg:Gl X x)(hm:X.mg x=some (.ref f))(hk:PySem.W.keepIn X.K (.ref f)=true)(hb:Binds X.K fd ps ds)(hd:Vals dvs ds)(hx:Passes CX X E)
    (ha:PA X (e::es) t) (hdb:(x == ("__debug__":Str))=false:=by decide) (he:starEach (e::es) X.env=(false,eval e X.env)::starEach es X.env:=by rfl) (hpl:(backTo pos (starEach es X.env)).any (·.1)=false:=by rfl) :
    PE X (.Call (.Name x p) (e::es) [] pos) (vF sp dvs E t):=by
  intro pins s σ H Q I h
  refine wpAny_Call_Name_kw (jc I hg hm ?_ hdb)
  refine PySem.W.callWith_K (h₀:=X.base) I.ok.mod.vg hk (bU (ha pos pins s σ H _ I h) λus s1 ⟨vs,H1,I1,r,q⟩=>⟨I1.fA,?_⟩) he hpl
  exact zS F hr hb hd hx I1 r q
theorem Hz {pl:Sem Bool}(he:PE X o ta)(c:oB X.K C)(hm:Meth X.K C m f)(F:bc X.prog X.w X.K X.mg X.base CX k f fd ps sp)(hr:en k X.A)(hb:Binds X.K fd ps ds)(hd:Vals dvs ds)(hx:Passes CX X E)(ha:PA X (e::es) t)
    (hst:starEach (e::es) X.env=(false,eval e X.env)::starEach es X.env:=by rfl) (hpl:(backTo pos (starEach es X.env)).any (·.1)=false:=by rfl)
    (ht:eval (.Call (.Attribute o m apos) (e::es) [] pos) X.env=(do
      let ov ←eval o X.env
      standAt apos.atName
      let (f,first) ←holding [ov] (getMethod ov m pl)
      callWith pos f first (backTo pos (starEach (e::es) X.env)) (backToKw pos (keywordEach [] X.env))):=by rfl) :
    PE X (.Call (.Attribute o m apos) (e::es) [] pos) (yg C m sp dvs E ta t):=by
  intro pins s σ H Q I h
  refine PySem.W.methodCall_KW (pl:=pl) (bU (he pins s σ H _ I h) λu s1 ⟨x,H1,I1,rx,a,dx,fs,ex,ea,l,q⟩=>?_) ht
  subst ex
  obtain rfl:u=Value.ref a:=rx
  refine u6 I1 ea c hm l ?_
  refine PySem.W.callWith_K (first:=[.ref a]) (h₀:=X.base) I.ok.mod.vg hm.kp (bU (ha pos pins s1 σ H1 _ I1 q) λus s2 ⟨vs,H2,I2,r,q2⟩=>⟨I2.fA,?_⟩) hst hpl
  exact zS (us:=.ref a::us) (vs:=.ref a::vs) F hr hb hd hx I2 (.cons rfl r) q2
structure Mk (K:PySem.W.Frag)(C f:Addr):Prop where
 makes:PySem.W.makesIn K C=true
 init:PySem.W.findIn K (.ref C) "__init__"=some (some (.ref f))
 fn:PySem.W.isFn K (.ref f)=true
 kp:PySem.W.keepIn K (.ref C)=true
theorem FO {pins:List (Addr×Obj)}{σ:St}{H:Hp}{s:Shared}{Q:VK}{us:List Value}{vs:List V}(M:Mk X.K C f)(F:bc X.prog X.w X.K X.mg X.base CX k f fd ps sp)(hr:en (k+1) X.A)(hb:Binds X.K fd ps ds)(hd:Vals dvs ds)
    (hx:Passes CX X E) (I:Inv X pins σ H s) (r:Vals vs us)
    (h:∀x dx,H x=none→H dx=none→dx≠x→sp (.ref x::(vs++dvs)) (upd (upd H dx (.own x)) x (.ins C dx [])) (λv H2=>v = .cU∧Q (.ref x) H2) E) :
    wpAny (model X.prog X.w) X.A (call (.ref C) us) (EP X pins σ Q) X.xe s:=by
  have hq:=h (s.heap.objs.size+1) s.heap.objs.size (I.bb.fresh (Nat.le_succ _)) (I.bb.fresh (Nat.le_refl _)) (Nat.ne_of_lt (Nat.lt_succ_self _))
  have I2:=Inv.made (C:=C) I
  have r2:Vals (V.ref (s.heap.objs.size+1)::(vs++dvs)) (Value.ref (s.heap.objs.size+1)::(us++ds)):=.cons rfl (r.append hd)
  have hl:(Value.ref (s.heap.objs.size+1)::us++ds).length=ps.length:=by
    have e:=r2.length
    rw [F.len _ _ _ _ hq] at e
    exact e.symm
  refine wpAny_call (Fu (f:=f) I.fA M.makes M.init (beq_iff_eq.mp M.fn) (codeAny_mono (F.run _ X.stack _ _ ⟨Value.ref (s.heap.objs.size+1)::us,[]⟩ (Value.ref (s.heap.objs.size+1)::(us++ds)) _ _ E (hr.make C us [])
    (I2.CA.make C us []) (hb _ (Value.ref (s.heap.objs.size+1)::us) I2.fA hl) r2 hq) λr s' hq'=>?_))
  cases r with
  | error e=>exact hx pins σ _ _ e s' I2 hq'
  | ok fl=>
    cases fl with
    | ret u=>
      obtain⟨v,H',I3,rv,ev,q3⟩:=I2.after hq'
      subst ev
      exact⟨rv,⟨V.ref (s.heap.objs.size+1),H',I3,rfl,q3⟩⟩
    | next=>exact False.elim hq'
    | brk=>exact False.elim hq'
    | cont=>exact False.elim hq'
theorem Hx (M:Mk X.K C f)(F:bc X.prog X.w X.K X.mg X.base CX k f fd ps sp)(hr:en (k+1) X.A)(hg:Gl X x)(hm:X.mg x=some (.ref C))(hb:Binds X.K fd ps ds)(hd:Vals dvs ds)(hx:Passes CX X E)
    (ha:PA X (e::es) t) (hdb:(x == ("__debug__":Str))=false:=by decide) (he:starEach (e::es) X.env=(false,eval e X.env)::starEach es X.env:=by rfl) (hpl:(backTo pos (starEach es X.env)).any (·.1)=false:=by rfl) :
    PE X (.Call (.Name x p) (e::es) [] pos) (yf C sp dvs E t):=by
  intro pins s σ H Q I h
  refine wpAny_Call_Name_kw (jc I hg hm ?_ hdb)
  refine PySem.W.callWith_K (h₀:=X.base) I.ok.mod.vg M.kp (bU (ha pos pins s σ H _ I h) λus s1 ⟨vs,H1,I1,r,q⟩=>⟨I1.fA,?_⟩) he hpl
  exact FO M F hr hb hd hx I1 r q
end
section
variable {X:Cx}{CX:jy}{k:Nat}{f C:Addr}{fd:FuncData}{ps ks:List Str}{sp:Sp}{E:XK}{x m:Str}{p pos apos kpos:Pos}{e o:Expr}{es:List Expr}{kws:List Keyword}{te ta:TE}{t tk:TA}{nm:Option Str}
variable {g:List Value→List Value→List Value}{gV:List V→List V→List V}
end
structure aK (N P:List Str)(sc:Scope):Prop where
 kind:sc.kind = .function
 co:sc.isCoroutine=false
 gen:sc.isGenerator=false
 nd:N.Nodup
 pre:N.take P.length=P
 par:∀x∈P,sc.names.lookup x=some .local∨sc.names.lookup x=some .cell
 Jd:∀y∈sc.names,y.2≠.free
theorem wN {kindOf:Str→Option NameKind}{x:Str}:∀{binds:List (Str×Value)} {m:Str→Option Value},(∀v,(x,v)∉binds)→bindL kindOf binds m x=m x
 | [],_,_=>rfl
 | (n,v)::r,m,h=>by
  unfold bindL
  rw [wN λw hw=>h w (List.mem_cons_of_mem _ hw)]
  split
  ·have:x≠n:=by rintro rfl;exact h v List.mem_cons_self
   simp [this]
  ·rfl
theorem wL {kindOf:Str→Option NameKind}{x:Str}:∀{binds:List (Str×Value)} {m:Str→Option Value},(∀v,(x,v)∉binds)→bindC kindOf binds m x=m x
 | [],_,_=>rfl
 | (n,v)::r,m,h=>by
  unfold bindC
  rw [wL λw hw=>h w (List.mem_cons_of_mem _ hw)]
  split
  ·rfl
  ·have:x≠n:=by rintro rfl;exact h v List.mem_cons_self
   simp [this]
theorem wM {kindOf:Str→Option NameKind}{x:Str}{v:Value}:∀{P:List Str} {vs:List Value} {i:Nat} {m:Str→Option Value},P.Nodup→P[i]?=some x→vs[i]?=some v→kindOf x=some .local →
    bindL kindOf (P.zip vs) m x=some v
  | [],_,_,_,_,h,_,_=>by simp at h
  | _::_,[],_,_,_,_,h,_=>by simp at h
  | p::P,w::vs,0,m,nd,h1,h2,hk=>by
    simp at h1 h2;subst h1;subst h2
    show bindL kindOf ((p,w)::P.zip vs) m p=_
    unfold bindL
    rw [wN λv hv=>(List.nodup_cons.mp nd).1 (List.of_mem_zip hv).1,if_pos hk]
    simp
  | p::P,w::vs,i+1,m,nd,h1,h2,hk=>by
    show bindL kindOf ((p,w)::P.zip vs) m x=_
    unfold bindL
    exact wM (i:=i) (List.nodup_cons.mp nd).2 (by simpa using h1) (by simpa using h2) hk
theorem wK {kindOf:Str→Option NameKind}{x:Str}{v:Value}:∀{P:List Str} {vs:List Value} {i:Nat} {m:Str→Option Value},P.Nodup→P[i]?=some x→vs[i]?=some v→kindOf x≠some .local →
    bindC kindOf (P.zip vs) m x=some v
  | [],_,_,_,_,h,_,_=>by simp at h
  | _::_,[],_,_,_,_,h,_=>by simp at h
  | p::P,w::vs,0,m,nd,h1,h2,hk=>by
    simp at h1 h2;subst h1;subst h2
    show bindC kindOf ((p,w)::P.zip vs) m p=_
    unfold bindC
    rw [wL λv hv=>(List.nodup_cons.mp nd).1 (List.of_mem_zip hv).1,if_neg hk]
    simp
  | p::P,w::vs,i+1,m,nd,h1,h2,hk=>by
    show bindC kindOf ((p,w)::P.zip vs) m x=_
    unfold bindC
    exact wK (i:=i) (List.nodup_cons.mp nd).2 (by simpa using h1) (by simpa using h2) hk
noncomputable def start (N:List Str)(vs:List V):St:=vs.map some++List.replicate (N.length-vs.length) none
noncomputable def oj (CX:jy)(P:Program)(w:World)(K:PySem.W.Frag)(mg:Str→Option Value)(base:Heap)(N:List Str)(qual:Str)(scope:Scope)(f:Addr)(cd:Value)(A:Around)(outer:List Env)(s:Shared)(H:Hp)(E:XK):Cx where
 prog:=P
 w:=w
 K:=K
 mg:=mg
 base:=base
 A:=A.deeper (envOfC qual scope s.heap.objs.size f cd)
 N:=N
 s₀:=s
 H₀:=H
 env:=envOfC qual scope s.heap.objs.size f cd
 outer:=outer
 stack:=envOfC qual scope s.heap.objs.size f cd::outer
 ex:=[]
 calm:=true
 fn:=λ_=>true
 pn:=[]
 xe:=λe s'=>wpAny (model P w) (A.deeper (envOfC qual scope s.heap.objs.size f cd)) (leaving (envOfC qual scope s.heap.objs.size f cd) e) (λ_ s''=>CX outer H s E e s'') (λe' s''=>CX outer H s E e' s'') s'
theorem yw {sc:Scope}{n:Nat}{x:Str}(h:sc.names.lookup x=some .cell):∃c,(cellsFrom n sc.names []).lookup x=some c:=by
 have q:=PySem.W.cellsFrom_some sc.names n [] (.inl h)
 exact Option.isSome_iff_exists.mp q
theorem DX {CX:jy}{P:Program}{w:World}{K:PySem.W.Frag}{mg:Str→Option Value}{base:Heap}{N ps:List Str}{qual:Str}{scope:Scope}{f:Addr}{cd:Value}{A:Around}{outer:List Env}{s s1:Shared}{H:Hp}{E:XK}{us:List Value}{vs:List V}
    (S:aK N ps scope) (hd:A.handled=none) (e0:tY P w K mg base A outer s H) (hl:vs.length=ps.length) (r:Vals vs us)
    (x:InCallC s s.heap.objs.size (bindL (envOfC qual scope s.heap.objs.size f cd).kindOf (ps.zip us) λ_=>none) (cellsFrom (s.heap.objs.size+1) scope.names []) (bindC (envOfC qual scope s.heap.objs.size f cd).kindOf (ps.zip us) λ_=>none) s1) :
    Inv (oj CX P w K mg base N qual scope f cd A outer s H E) [] (start N vs) H s1:=by
  have hpl:ps.length≤N.length:=by have:=congrArg List.length S.pre;rw [List.length_take] at this;omega
  obtain⟨h1,tk,rfl,hk⟩:=x.done
  have noA:∀b:Addr,b∉(oj CX P w K mg base N qual scope f cd A outer s H E).ex:=λb z=>absurd (show b∈([]:List Addr) from z) (by simp)
  refine⟨⟨e0.mod,S.kind,rfl,rfl,Nat.le_refl _,λy z c h1 h2=>?_,λy hy=>?_,λy c _ h=>?_,λ_=>hd,Around.frames_deeper e0.frames,.inr ⟨rfl,rfl⟩,λb z=>absurd z (noA b),e0.bs,e0.nM,λb _ _=>noA b,λb z=>absurd z (noA b),e0.i4,e0.qo⟩,
    rfl,e0.bare,Un.kept hk,⟨_,x.toInCall.ns,λi y v h1 h2 h3=>?_⟩,λy c h=>⟨_,x.cell y c h⟩,e0.bb.fresh (Nat.le_refl _),λy c h=>?_,λp hp=>absurd (show p∈([]:List (Addr×Obj)) from hp) (by simp),e0.bb.kept hk,?_⟩
  · exact name_of_addr x.apart (PySem.mem_of_lookup h1) (PySem.mem_of_lookup h2)
  · have hy:scope.names.lookup y=some .cell∨scope.names.lookup y=some .free:=hy
    rcases hy with hy|hy
    · exact yw hy
    · exact absurd rfl (S.Jd _ (PySem.mem_of_lookup hy))
  · exact Nat.le_of_lt (x.above y c (PySem.mem_of_lookup h))
  · have hi:i<vs.length:=by
      unfold start at h2
      by_cases hi:i<vs.length
      · exact hi
      · rw [List.getElem?_append_right (by simpa using hi)] at h2
        rw [List.getElem?_replicate] at h2
        split at h2<;>cases h2
    have ha:vs[i]?=some v:=by
      unfold start at h2
      rw [List.getElem?_append_left (by simpa using hi),List.getElem?_map] at h2
      cases e:vs[i]? with
      | none=>rw [e] at h2;cases h2
      | some a=>rw [e] at h2;cases h2;rfl
    obtain⟨u,hu,rv⟩:=r.get ha
    have hp:ps[i]?=some y:=by
      rw [←S.pre,List.getElem?_take_of_lt (by omega)];exact h1
    have ndP:ps.Nodup:=by rw [←S.pre];exact S.nd.sublist (List.take_sublist _ _)
    refine⟨u,rv,?_⟩
    rcases S.par y (List.mem_of_getElem? hp) with k|k
    · exact .inl ⟨k,wM ndP hp hu k⟩
    · obtain⟨c,e⟩:=yw (n:=s.heap.objs.size+1) k
      refine .inr ⟨.inl k,c,e,?_⟩
      have q:=x.cell y c e
      rw [wK ndP hp hu (by show scope.names.lookup y≠_;rw [k];decide)] at q
      exact q
  · exact e0.bb.fresh (Nat.le_of_lt (x.above y c (PySem.mem_of_lookup h)))
  · unfold start
    show _=N.length
    rw [List.length_append,List.length_map,List.length_replicate]
    omega
theorem Gs {CX:jy}{P:Program}{w:World}{K:PySem.W.Frag}{mg:Str→Option Value}{base:Heap}{k:Nat}{f:Addr}{name qual:Str}{params:Arguments}{body:List Stmt}{scope:Scope}{dV kV doc pm cdv ct oc:Value}{an od:Option Addr}
    {osl:Array (Option Value)} {N ps:List Str} {sp:Sp} (lk:K.lookup f=some ⟨oc,od,.func (PySem.W.fnOf name qual params body scope dV kV doc pm an cdv ct),osl⟩) (hcd:PySem.W.codeIn K cdv qual=true) (S:aK N ps scope)
    (len:∀vs H Q E,sp vs H Q E→vs.length=ps.length)
    (hbody:∀(A:Around) (outer:List Env) (s:Shared) (H:Hp) (vs:List V) (Q:VK) (E:XK),en k (A.deeper (envOfC qual scope s.heap.objs.size f cdv))→sp vs H Q E →
      ∃t,mi (oj CX P w K mg base N qual scope f cdv A outer s H E) body t∧t { nx:=λ_ H'=>Q .cU H',rt:=Q } (start N vs) H) :
    bc P w K mg base CX (k+1) f (PySem.W.fnOf name qual params body scope dV kV doc pm an cdv ct) ps sp:=by
  refine⟨len,λA outer s H args us vs Q E hr e0 hb r hsp=>?_⟩
  have hl:=len _ _ _ _ hsp
  have KX:K.In s.heap:=e0.mod.vg.keeps λb o e=>(e0.bs b o e).1
  have lim:s.heap.NoLimit:=e0.mod.nolimit.keeps λb o e=>(e0.bs b o e).1
  have hkind:∀y∈ps.zip us,scope.names.lookup y.1=some .local∨(scope.names.lookup y.1=some .cell∧((cellsFrom (s.heap.objs.size+1) scope.names []).lookup y.1).isSome=true):=λ⟨n,v⟩ hy=>by
    rcases S.par n (List.of_mem_zip hy).1 with q|q
    · exact .inl q
    · exact .inr ⟨q,PySem.W.cellsFrom_some _ _ _ (.inl q)⟩
  refine codeAny_call_function hr.depth (KX _ _ lk) rfl S.co S.gen rfl (PySem.W.codeRec_of KX hcd) (hb _ _ _ _ ?_)
  refine wpAny_newFunctionEnv_cells S.kind hkind λenv he s1 x=>?_
  subst he
  refine⟨lim.keeps x.toInCall.keep,codeAny_func ?_⟩
  obtain⟨t,ht,hq⟩:=hbody A outer s H vs Q E (hr.deeper _) hsp
  have I:Inv (oj CX P w K mg base N qual scope f cdv A outer s H E) [] (start N vs) H s1:=DX S hr.hd e0 hl r x
  refine wpAny_mono (ht [] s1 (start N vs) H _ I hq) (λfl s' hs=>?_) λe s' hs=>hs
  have fin:∀{σ':St} {H':Hp} {v:V} {u:Value},Inv (oj CX P w K mg base N qual scope f cdv A outer s H E) [] σ' H' s'→RelV v u→Q v H'→CE outer P w H s Q u s':=
    λ{σ' H' v u} J rv q=>⟨v,H',J.os,J.bare,J.base,J.bb,rv,q⟩
  cases fl with
  | ret u=>
    obtain⟨v,σ',H',J,rv,q⟩:=hs
    exact fin J rv q
  | next=>
    obtain⟨σ',H',J,q⟩:=hs
    exact fin (v:=V.cU) (u:=Value.none) J rfl q
  | brk=>
    obtain⟨_,_,_,q⟩:=hs
    exact False.elim q
  | cont=>
    obtain⟨_,_,_,q⟩:=hs
    exact False.elim q
open PySem PySem.Spec PyProof.Rows
section
variable {X:Cx}{x:Str}{p pos:Pos}{e:Expr}{es:List Expr}{t:TA}{id T:String}{r:List V→Hp→VK→Prop}
def GQ (r:List V→Hp→VK→Prop)(t:TA):TE:=λσ H Q=>t σ H λvs H1=>r vs H1 Q
theorem aZ (hc:fz X (.builtin id) r)(hg:Gl X x)(hm:X.mg x=none)(hv:bootBuiltins x=some (.builtin id))(ha:PA X (e::es) t)(hn:x≠"__name__":=by decide)(hdb:(x == ("__debug__":Str))=false:=by decide)
    (he:starEach (e::es) X.env=(false,eval e X.env)::starEach es X.env:=by rfl) (hpl:(backTo pos (starEach es X.env)).any (·.1)=false:=by rfl):PE X (.Call (.Name x p) (e::es) [] pos) (GQ r t):=by
  intro pins s σ H Q I h
  refine wpAny_Call_Name_kw (kq I hg hm hv ?_ hn hdb)
  exact PyProof.Rows.callWith_builtin1 (bU (ha pos pins s σ H _ I h) λus s1 ⟨vs,H1,I1,r1,q1⟩=>hc pins s1 σ H1 vs us Q I1 r1 q1) he hpl
theorem cb (hc:fz X (.type T) r)(hg:Gl X x)(hm:X.mg x=none)(hv:bootBuiltins x=some (.type T))(ha:PA X (e::es) t)(hn:x≠"__name__":=by decide)(hdb:(x == ("__debug__":Str))=false:=by decide)
    (he:starEach (e::es) X.env=(false,eval e X.env)::starEach es X.env:=by rfl) (hpl:(backTo pos (starEach es X.env)).any (·.1)=false:=by rfl):PE X (.Call (.Name x p) (e::es) [] pos) (GQ r t):=by
  intro pins s σ H Q I h
  refine wpAny_Call_Name_kw (kq I hg hm hv ?_ hn hdb)
  exact PyProof.Rows.callWith_type1 (bU (ha pos pins s σ H _ I h) λus s1 ⟨vs,H1,I1,r1,q1⟩=>hc pins s1 σ H1 vs us Q I1 r1 q1) he hpl
end
open PySem PySem.Spec PyProof.Rows
section
variable {κ:Type}[DecidableEq κ]
noncomputable def dB (kvs:List (κ×V))(k:κ):Option V:=(kvs.find? λkv=>decide (kv.1=k)).map (·.2)
noncomputable def putK (kvs:List (κ×V))(k:κ)(v:V):List (κ×V):=
 if (kvs.any λkv=>decide (kv.1=k))=true then kvs.map (λkv=>if kv.1=k then (kv.1,v) else kv) else kvs++[(k,v)]
noncomputable def sf (kvs:List (κ×V))(k:κ):List (κ×V):=kvs.filter λkv=>decide (kv.1≠k)
theorem fZ {p:κ×V}{r:List (κ×V)}{k:κ}(e:p.1=k):dB (p::r) k=some p.2:=by simp [dB,List.find?_cons,e]
theorem fY {p:κ×V}{r:List (κ×V)}{k:κ}(e:¬p.1=k):dB (p::r) k=dB r k:=by simp [dB,List.find?_cons,e]
theorem qa (k:κ):∀kvs:List (κ×V),(kvs.any λkv=>decide (kv.1=k))=(dB kvs k).isSome
 | []=>rfl
 | p::r=>by
  rw [List.any_cons]
  by_cases e:p.1=k
  ·simp only [fZ e,decide_eq_true e,Bool.true_or,Option.isSome_some]
  ·rw [fY e,decide_eq_false e,Bool.false_or];exact qa k r
theorem AA (k j:κ)(y:V):∀kvs:List (κ×V),dB (kvs.map λkv=>if kv.1=k then (kv.1,y) else kv) j=(dB kvs j).map λx=>if j=k then y else x
 | []=>rfl
 | p::r=>by
  have ih:=AA k j y r
  rw [List.map_cons]
  by_cases h:p.1=k
  ·rw [if_pos h]
   by_cases e:p.1=j
   ·rw [fZ (p:=(p.1,y)) e,fZ e,Option.map_some,if_pos (e.symm.trans h)]
   ·rw [fY (p:=(p.1,y)) e,fY e,ih]
  ·rw [if_neg h]
   by_cases e:p.1=j
   ·rw [fZ (p:=p) e,fZ e,Option.map_some,if_neg (λz=>h (e.trans z))]
   ·rw [fY (p:=p) e,fY e,ih]
theorem xo (k j:κ)(y:V):∀kvs:List (κ×V),dB kvs k=none→dB (kvs++[(k,y)]) j=if j=k then some y else dB kvs j
 | [],_=>by
  by_cases e:k=j
  ·rw [if_pos e.symm];exact fZ (p:=(k,y)) e
  ·rw [if_neg (λz=>e z.symm)];exact fY (p:=(k,y)) e
 | p::r,hn=>by
  rw [List.cons_append]
  have hk:¬p.1=k:=λz=>by rw [fZ z] at hn;cases hn
  rw [fY hk] at hn
  have ih:=xo k j y r hn
  by_cases e:p.1=j
  ·rw [fZ e,fZ e,if_neg (λz=>hk (e.trans z))]
  ·rw [fY e,fY e,ih]
theorem qb (kvs:List (κ×V))(k j:κ)(y:V):dB (putK kvs k y) j=if j=k then some y else dB kvs j:=by
 unfold putK
 by_cases a:(kvs.any λkv=>decide (kv.1=k))=true
 ·rw [if_pos a,AA]
  rw [qa] at a
  by_cases e:j=k
  ·obtain⟨x,hx⟩:=Option.isSome_iff_exists.mp a
   rw [if_pos e,e,hx,Option.map_some,if_pos rfl]
  ·rw [if_neg e]
   cases dB kvs j with
   | none=>rfl
   | some x=>rw [Option.map_some,if_neg e]
 ·rw [if_neg a]
  refine xo k j y kvs ?_
  rw [qa] at a
  cases q:dB kvs k with
  | none=>rfl
  | some x=>rw [q] at a;exact (a rfl).elim
theorem tT (kvs:List (κ×V))(k:κ)(v:V):(putK kvs k v).length≤kvs.length+1:=by
 unfold putK
 split
 ·rw [List.length_map];omega
 ·rw [List.length_append,List.length_cons,List.length_nil];omega
theorem iV.rq {o:Option V}{u:Option Value}(r:iV o u):o.isSome=u.isSome:=by
 cases o with
 | none=>cases u with
  | none=>rfl
  | some _=>exact (show False from r).elim
 | some _=>cases u with
  | none=>exact (show False from r).elim
  | some _=>rfl
theorem KV.val {kvs:List (κ×V)}{vs:List (κ×Value)}(r:KV kvs vs)(k:κ):iV (dB kvs k) (valueAt vs k):=by
 unfold KV at r
 induction r with
 | nil=>exact True.intro
 | @cons p q ps qs h t ih=>
  obtain⟨h1,h2⟩:=h
  by_cases e:p.1=k
  ·have e':q.1=k:=h1.symm.trans e
   have b:valueAt (q::qs) k=some q.2:=by simp [valueAt,List.find?_cons,e']
   rw [fZ e,b];exact h2
  ·have e':¬q.1=k:=λz=>e (h1.trans z)
   have b:valueAt (q::qs) k=valueAt qs k:=by simp [valueAt,List.find?_cons,e']
   rw [fY e,b];exact ih
theorem KV.any {kvs:List (κ×V)}{vs:List (κ×Value)}(r:KV kvs vs)(k:κ):(kvs.any λkv=>decide (kv.1=k))=vs.any λkv=>decide (kv.1=k):=by
 unfold KV at r
 induction r with
 | nil=>rfl
 | cons h t ih=>rw [List.any_cons,List.any_cons,ih,h.1]
theorem KV.FJ {kvs:List (κ×V)}{vs:List (κ×Value)}(r:KV kvs vs)(k:κ){y:V}{u:Value}(ry:RelV y u) :
    KV (kvs.map λkv=>if kv.1=k then (kv.1,y) else kv) (vs.map λkv=>if kv.1=k then (kv.1,u) else kv):=by
  unfold KV at r ⊢
  induction r with
  | nil=>exact .nil
  | @cons p q ps qs h t ih=>
    rw [List.map_cons,List.map_cons]
    refine .cons ?_ ih
    obtain⟨h1,h2⟩:=h
    by_cases e:p.1=k
    · rw [if_pos e,if_pos (h1.symm.trans e)];exact⟨h1,ry⟩
    · rw [if_neg e,if_neg (λz=>e (h1.trans z))];exact⟨h1,h2⟩
theorem KV.put {kvs:List (κ×V)}{vs:List (κ×Value)}(r:KV kvs vs)(k:κ){y:V}{u:Value}(ry:RelV y u):KV (putK kvs k y) (stored vs k u):=by
 unfold putK stored
 rw [r.any k]
 by_cases e:(vs.any λkv=>decide (kv.1=k))=true
 ·rw [if_pos e,if_pos e];exact r.FJ k ry
 ·rw [if_neg e,if_neg e];exact Paired.snoc r ⟨rfl,ry⟩
theorem KV.drop {kvs:List (κ×V)}{vs:List (κ×Value)}(r:KV kvs vs)(k:κ):KV (sf kvs k) (without vs k):=by
 unfold KV at r ⊢
 unfold sf without
 induction r with
 | nil=>exact .nil
 | @cons p q ps qs h t ih=>
  obtain⟨h1,h2⟩:=h
  rw [List.filter_cons,List.filter_cons]
  by_cases e:p.1=k
  ·have a:¬decide (p.1≠k)=true:=by simp [e]
   have b:¬decide (q.1≠k)=true:=by simp [h1.symm.trans e]
   rw [if_neg a,if_neg b];exact ih
  ·have e':¬q.1=k:=λz=>e (h1.trans z)
   have a:decide (p.1≠k)=true:=by simp [e]
   have b:decide (q.1≠k)=true:=by simp [e']
   rw [if_pos a,if_pos b];exact .cons ⟨h1,h2⟩ ih
theorem KV.length {kvs:List (κ×V)}{vs:List (κ×Value)}(r:KV kvs vs):kvs.length=vs.length:=Paired.length r
theorem yJ (kvs:List (κ×V))(k:κ):(sf kvs k).length≤kvs.length:=List.length_filter_le _ _
end
theorem nU {P:Program}{w:World}{k:Key}{u:Value}(r:RelV (kV k) u):(dZ P w).is k u=true:=by
 cases k with
 | inl i=>obtain⟨t,e⟩:=(show ∃t,u=Value.int i t from r);subst e;exact A8 P w i t
 | inr x=>obtain⟨t,e⟩:=(show ∃t,u=Value.str x t from r);subst e;exact oo P w x t
theorem w6 {P:Program}{w:World}:∀{ks:List Key} {us:List Value},Vals (ks.map kV) us→ItemsAre (dZ P w) ks us
 | [],_,r=>by rw [List.map_nil] at r;cases r;exact .nil
 | k::ks,_,r=>by
  rw [List.map_cons] at r
  cases r with
  | cons h t=>exact .cons (nU h) (w6 t)
abbrev KT (H:Hp):List (List Key×V)→List (List Key×Addr×Value)→Prop:=Paired λp q=>p.1=q.1∧H q.2.1=some (.tup (p.1.map kV))∧RelV p.2 q.2.2
theorem KT.val {H:Hp}{kvs:List (List Key×V)}{xs:List (List Key×Addr×Value)}(r:KT H kvs xs)(k:List Key):iV (dB kvs k) ((atKey xs k).map (·.2)):=by
 induction r with
 | nil=>exact True.intro
 | @cons p q ps qs h t ih=>
  obtain⟨h1,_,h2⟩:=h
  by_cases e:p.1=k
  ·have e':q.1=k:=h1.symm.trans e
   have b:atKey (q::qs) k=some q.2:=by simp [atKey,List.find?_cons,e']
   rw [fZ e,b];exact h2
  ·have e':¬q.1=k:=λz=>e (h1.trans z)
   have b:atKey (q::qs) k=atKey qs k:=by simp [atKey,List.find?_cons,e']
   rw [fY e,b];exact ih
theorem KT.FJ {H:Hp}{kvs:List (List Key×V)}{xs:List (List Key×Addr×Value)}(r:KT H kvs xs)(k:List Key){y:V}{u:Value}(ry:RelV y u) :
    KT H (kvs.map λkv=>if kv.1=k then (kv.1,y) else kv) (xs.map (putAt k u)):=by
  induction r with
  | nil=>exact .nil
  | @cons p q ps qs h t ih=>
    rw [List.map_cons,List.map_cons]
    refine .cons ?_ ih
    obtain⟨h1,h2,h3⟩:=h
    unfold putAt
    by_cases e:p.1=k
    · rw [if_pos e,if_pos (h1.symm.trans e)];exact⟨h1,h2,ry⟩
    · rw [if_neg e,if_neg (λz=>e (h1.trans z))];exact⟨h1,h2,h3⟩
theorem KT.put {H:Hp}{kvs:List (List Key×V)}{xs:List (List Key×Addr×Value)}(r:KT H kvs xs)(k:List Key){b:Addr}{y:V}{u:Value}(hb:H b=some (.tup (k.map kV)))(ry:RelV y u) :
    KT H (putK kvs k y) (storedH xs k b u):=by
  have e:(kvs.any λkv=>decide (kv.1=k))=(atKey xs k).isSome:=by
    rw [qa,(r.val k).rq,Option.isSome_map]
  unfold putK storedH
  rw [e]
  by_cases q:(atKey xs k).isSome=true
  · rw [if_pos q,if_pos q];exact r.FJ k ry
  · rw [if_neg q,if_neg q];exact Paired.snoc r ⟨rfl,hb,ry⟩
theorem KT.keeps {H H':Hp}{kvs:List (List Key×V)}{xs:List (List Key×Addr×Value)}(r:KT H kvs xs)(ht:∀b ys,H b=some (.tup ys)→H' b=some (.tup ys)):KT H' kvs xs:=
 Paired.Fv r λ_ _ z=>⟨z.1,ht _ _ z.2.1,z.2.2⟩
section
variable {P:Program}{w:World}{H:Hp}{h:Heap}{a:Addr}
theorem Gz {u:HO}(ok:e7 P w H h)(e:Rd H a u):cT P w H h a u:=e.ok ok
theorem u1 {kvs:List (Key×V)}(ok:e7 P w H h)(e:Rd H a (.dK kvs)):kvs.length≤sizeLine∧(a == sysModules)=false∧∃vs,KV kvs vs∧h.DictOf (dZ P w) a vs:=
 show cT P w H h a (.dK kvs) from Gz ok e
theorem Gr {kvs:List (Key×V)}(ok:e7 P w H h)(e:H a=some (.dK kvs)):kvs.length≤sizeLine∧(a == sysModules)=false∧∃vs,KV kvs vs∧h.DictOf (dZ P w) a vs:=u1 ok (.inl e)
theorem vf {ks:List Key}(ok:e7 P w H h)(e:H a=some (.tup (ks.map kV))):(tupleKind (dZ P w)).is h ks a:=by
 obtain⟨_,its,r,o,h1,h2,n,h3⟩:=(show cT P w H h a (.tup (ks.map kV)) from ok a _ e)
 exact⟨o,its.toArray,n,h1,h2,h3,by simpa using w6 r⟩
theorem u3 {kvs:List (List Key×V)}(ok:e7 P w H h)(e:Rd H a (.dT kvs)):kvs.length≤sizeLine∧(a == sysModules)=false ∧
    ∃xs,KT H kvs xs∧h.DictOfH (tupleKind (dZ P w)) a xs:=by
  obtain⟨z,y,xs,r,o,es,ep,h1,h2,h3,h4,h5⟩:=(show cT P w H h a (.dT kvs) from Gz ok e)
  refine⟨z,y,xs,r,o,es,ep,h1,h2,h3,h4,λx hx=>?_,h5⟩
  have all:∀{l:List (List Key×V)} {m:List (List Key×Addr×Value)},KT H l m→∀x∈m,(tupleKind (dZ P w)).is h x.1 x.2.1:=by
    intro l m q
    induction q with
    | nil=>intro x hx;exact nomatch hx
    | @cons p q ps qs hq t ih=>
      intro x hx
      rcases List.mem_cons.mp hx with e|hx
      · subst e
        exact vf ok (by rw [←hq.1];exact hq.2.1)
      · exact ih x hx
  exact all r x hx
theorem JS {kvs:List (List Key×V)}(ok:e7 P w H h)(e:H a=some (.dT kvs)):kvs.length≤sizeLine∧(a == sysModules)=false ∧
    ∃xs,KT H kvs xs∧h.DictOfH (tupleKind (dZ P w)) a xs:=u3 ok (.inl e)
end
def ph (H:Hp)(a:Addr)(y:V)(r:Option V):Prop:=
 (∃kvs k,Rd H a (.dK kvs)∧y=kV k∧r=dB kvs k)∨∃kvs k b,Rd H a (.dT kvs)∧y = .ref b∧H b=some (.tup (k.map kV))∧r=dB kvs k
def yh (H:Hp)(a:Addr)(y v:V)(H':Hp):Prop:=
 (∃kvs k,H a=some (.dK kvs)∧y=kV k∧kvs.length<sizeLine∧H'=upd H a (.dK (putK kvs k v))) ∨
 ∃kvs k b,H a=some (.dT kvs)∧y = .ref b∧H b=some (.tup (k.map kV))∧kvs.length<sizeLine∧H'=upd H a (.dT (putK kvs k v))
theorem ph.k {H:Hp}{a:Addr}{kvs:List (Key×V)}{k:Key}(e:H a=some (.dK kvs)):ph H a (kV k) (dB kvs k):=.inl ⟨kvs,k,.inl e,rfl,rfl⟩
theorem yh.k {H:Hp}{a:Addr}{kvs:List (Key×V)}{k:Key}{v:V}(e:H a=some (.dK kvs))(hl:kvs.length<sizeLine):yh H a (kV k) v (upd H a (.dK (putK kvs k v))):=.inl ⟨kvs,k,e,rfl,hl,rfl⟩
section
variable {X:Cx}{pins:List (Addr×Obj)}{σ:St}{H:Hp}{s:Shared}{a:Addr}{y v:V}{u r:Value}{o:Option V}{A:Around}{E:Value→Shared→Prop}
theorem Inv.big (I:Inv X pins σ H s):sysModules<s.heap.objs.size:=by
 have h:mainGlobals<s.heap.objs.size:=(I.mod.glob.keeps I.bk).lt
 exact Nat.lt_trans (by decide) h
theorem DG {Q:Value→Shared→Prop}(hu:A.units+1<cLine)(I:Inv X pins σ H s)(g:ph H a y (some v))(ry:RelV y u)(h:∀w' s',Inv X pins σ H s'→RelV v w'→Q w' s') :
    wpAny (model X.prog X.w) A (getItem (.ref a) u) Q E s:=by
  rcases g with⟨kvs,k,e,ey,l⟩|⟨kvs,k,b,e,ey,eb,l⟩
  · subst ey
    obtain⟨z,hd,vs,rel,dd⟩:=u1 I.bb e
    obtain⟨w',hw,rw'⟩:=iV.some_of (v:=v) (o:=valueAt vs k) (by rw [l];exact rel.val k)
    exact wpAny_getItem_of (nU ry) dd.mapOf hw (h w' _ (I.tok _) rw')
  · subst ey
    cases (show u=Value.ref b from ry)
    obtain⟨z,hd,xs,rel,dd⟩:=u3 I.bb e
    obtain⟨w',hw,rw'⟩:=iV.some_of (v:=v) (o:=(atKey xs k).map (·.2)) (by rw [l];exact rel.val k)
    obtain⟨p,hp,hp2⟩:=Option.map_eq_some_iff.mp hw
    refine wpAny_getItem_heap (tupleKind_room_in1 hu) (vf I.bb eb) dd hp ?_
    rw [hp2]
    exact h w' _ (I.tok _) rw'
theorem Hd {Q:Value→Shared→Prop}(hu:A.units+1<cLine)(I:Inv X pins σ H s)(g:ph H a y o)(ry:RelV y u)(h:∀s',Inv X pins σ H s'→Q (.bool (!o.isSome)) s') :
    wpAny (model X.prog X.w) A (compareOp .NotIn u (.ref a)) Q E s:=by
  rcases g with⟨kvs,k,e,ey,l⟩|⟨kvs,k,b,e,ey,eb,l⟩
  · subst ey
    obtain⟨z,hd,vs,rel,dd⟩:=u1 I.bb e
    refine wpAny_notIn_of (nU ry) hd dd.mapOf ?_
    rw [←(rel.val k).rq,←l]
    exact h _ (I.tok _)
  · subst ey
    cases (show u=Value.ref b from ry)
    obtain⟨z,hd,xs,rel,dd⟩:=u3 I.bb e
    refine wpAny_notIn_heap (tupleKind_room_in1 hu) (vf I.bb eb) hd dd ?_
    have q:=(rel.val k).rq
    rw [Option.isSome_map] at q
    rw [←q,←l]
    exact h _ (I.tok _)
theorem vR {h':Heap}{t':Nat}{ob:HO}(I:Inv X pins σ H s)(mu:Dp (H a))(hs:Heap.SameBut a s.heap h')(he:∃q,h'.get? a=some q)(new:cT X.prog X.w (upd H a ob) h' a ob) :
    Inv X pins σ (upd H a ob) { s with heap:=h',toks:=t' }:=
  I.write (x:=a) (e:=a) mu (.inl rfl) (λb q hb z=>(hs.2 b hb).trans z) he new
theorem DK {P:Program}{w:World}{H':Hp}{h':Heap}{kvs:List (Key×V)}{vs:List (Key×Value)}(z:kvs.length≤sizeLine)(hd:(a == sysModules)=false)(rel:KV kvs vs)(dd:h'.DictOf (dZ P w) a vs) :
    cT P w H' h' a (.dK kvs):=⟨z,hd,vs,rel,dd⟩
theorem DH {H':Hp}{Q:Unit→Shared→Prop}(hu:A.units+1<cLine)(I:Inv X pins σ H s)(g:yh H a y v H')(ry:RelV y u)(rv:RelV v r)(h:∀s',Inv X pins σ H' s'→Q () s') :
    wpAny (model X.prog X.w) A (setItem (.ref a) u r) Q E s:=by
  rcases g with⟨kvs,k,e,ey,l,eH⟩|⟨kvs,k,b,e,ey,eb,l,eH⟩
  · subst ey eH
    obtain⟨z,hd,vs,rel,dd⟩:=Gr I.bb e
    have hz:vs.length≤sizeLine:=by rw [←rel.length];exact z
    have hl:(putK kvs k v).length≤sizeLine:=by have:=tT kvs k v;omega
    refine wpAny_setItem_pairs (hsz:=hz) (nU ry) dd λh' dd' hs=>h _ ?_
    have he:∃q,h'.get? a=some q:=let ⟨q,_,_,hq,_⟩:=dd';⟨q,hq⟩
    exact vR I (by rw [e];exact True.intro) hs he (DK hl hd (rel.put k rv) dd')
  · subst ey eH
    cases (show u=Value.ref b from ry)
    obtain⟨z,hd,xs,rel,dd⟩:=JS I.bb e
    have hz:xs.length≤sizeLine:=by rw [←Paired.length rel];exact z
    have hl:(putK kvs k v).length≤sizeLine:=by have:=tT kvs k v;omega
    refine wpAny_setItem_heap (hsz:=hz) (tupleKind_room_in1 hu) (vf I.bb eb) dd λh' dd' hs=>h _ ?_
    obtain⟨q,es,ep,hq,h2,h3,h4,_,h5⟩:=dd'
    refine vR I (by rw [e];exact True.intro) hs ⟨q,hq⟩ ⟨hl,hd,_,(rel.put k eb rv).keeps λc ys ec=>?_,q,es,ep,hq,h2,h3,h4,h5⟩
    rw [aI (JV ec e (λz=>nomatch z))]
    exact ec
end
section
variable {X:Cx}{pins:List (Addr×Obj)}{σ:St}{H:Hp}{s:Shared}{a:Addr}{kvs:List (Key×V)}{k:Key}{u:Value}{A:Around}{E:Value→Shared→Prop}
theorem JQ {v:V}{more:List Value}{Q:Value→Shared→Prop}(I:Inv X pins σ H s)(e:H a=some (.dK kvs))(ry:RelV (kV k) u)(l:dB kvs k=some v)(hm:more=[]∨∃x,more=[x])
    (h:∀w' s',Inv X pins σ (upd H a (.dK (sf kvs k))) s'→RelV v w'→Q w' s'):wpAny (model X.prog X.w) A (call (.builtin "dict.pop") (.ref a::u::more)) Q E s:=by
  obtain⟨z,hd,vs,rel,dd⟩:=Gr I.bb e
  obtain⟨w',hw,rw'⟩:=iV.some_of (v:=v) (o:=valueAt vs k) (by rw [←l];exact rel.val k)
  have hp:(keyPart u).isSome=true:=by
    cases k with
    | inl i=>obtain⟨t,q⟩:=(show ∃t,u=Value.int i t from ry);subst q;rfl
    | inr x=>obtain⟨t,q⟩:=(show ∃t,u=Value.str x t from ry);subst q;rfl
  have ha:argsOk "dict.pop" ⟨.ref a::u::more,[]⟩:=by
    rcases hm with q|⟨x,q⟩
    · subst q;exact PySem.F.args_dict_pop_2 _ _
    · subst q;exact PySem.F.args_dict_pop_3 _ _ _
  refine call_meetsIn PySem.F.slot_dict_pop dd.typeIs PySem.F.entry_dict_pop ha (meets_dict_pop_there (dZ X.prog X.w) a (nU ry) more hm hp)
    ⟨vs,w',dd,by rw [←rel.length];exact z,hw,λh' dd' hs=>h w' _ ?_ rw'⟩
  have he:∃q,h'.get? a=some q:=let ⟨q,_,_,hq,_⟩:=dd';⟨q,hq⟩
  exact vR I (by rw [e];exact True.intro) hs he (DK (Nat.le_trans (yJ kvs k) z) hd (rel.drop k) dd')
end
def EY (i:Expr):Prop:=∀ov iv,subscripted i false ov iv=operate [ov,iv] (getItem ov iv)
theorem B5 {prog:Program}{w:World}{A:Around}{E:Value→Shared→Prop}{s:Shared}{env:Env}{value slice:Expr}{pos:Pos}{T id:String}{Q:Value→Shared→Prop}
    (hl:typeLookup (.type T) "__getitem__"=pure (some (.builtin id))) (hs:EY slice)
    (h:wpAny (model prog w) A (eval value env) (λo s₁=>wpAny (model prog w) A (eval slice env) (λi s₂=>s₂.TypeIs o T∧wpAny (model prog w) A (getItem o i) Q E s₂) E s₁) E s) :
    wpAny (model prog w) A (eval (.Subscript value slice pos) env) Q E s:=by
  refine Subscript_ (wpAny_mono h (λo s₁ h₁=>wpAny_mono h₁ (λi s₂ h₂=>?_) λ_ _ x=>x) λ_ _ x=>x)
  obtain⟨hT,h₂⟩:=h₂
  unfold subscriptTail
  refine wpAny_bind ?_
  rw [getitemInPython_of_ne hT.not_modules]
  refine wpAny_bind (wpAny_specialOf hT hl ?_)
  have fin:wpAny (model prog w) A (subscripted slice false o i) (λr s₃=>wpAny (model prog w) A (letTemporaryGo value o r >>= λ_=>pure r) Q E s₃) E s₂:=by
    rw [hs o i]
    exact wpAny_operating (wpAny_mono h₂ (λr s₃ h₃=>wpAny_bind (wpAny_letTemporaryGo (wpAny_pure h₃))) λ_ _ x=>x)
  first
    | exact wpAny_pure (wpAny_bind fin)
    | exact wpAny_bind (wpAny_pure (wpAny_bind fin))
    | exact wpAny_bind fin
theorem A3 {X:Cx}{pins:List (Addr×Obj)}{σ:St}{H:Hp}{s:Shared}{a:Addr}{y:V}{o:Option V}(I:Inv X pins σ H s)(g:ph H a y o):s.TypeIs (.ref a) "dict":=by
 rcases g with⟨kvs,k,e,_,_⟩|⟨kvs,k,b,e,_,_,_⟩
 ·obtain⟨_,_,vs,_,dd⟩:=u1 I.bb e
  exact dd.typeIs
 ·obtain⟨_,_,xs,_,dd⟩:=u3 I.bb e
  exact dd.typeIs
def C8 (td ty:TE):TE:=λσ H Q=>td σ H λx H1=>ty σ H1 λy H2=>∃a v,x = .ref a∧ph H2 a y (some v)∧Q v H2
def wq (ty td:TE):TE:=λσ H Q=>ty σ H λy H1=>td σ H1 λx H2=>∃a o,x = .ref a∧ph H2 a y o∧Q (.bl (!o.isSome)) H2
def CZ (td ty tv:TE):TS:=λD σ H=>tv σ H λv H1=>td σ H1 λx H2=>ty σ H2 λy H3=>∃a H4,x = .ref a∧yh H3 a y v H4∧D.nx σ H4
section
variable {X:Cx}{o i e value:Expr}{pos pos' tpos:Pos}{td ty tv:TE}
theorem Hw (hu:X.A.units+1<cLine)(ho:PE X o td)(hi:PE X i ty)(hs:EY i):PE X (.Subscript o i pos) (C8 td ty):=by
 intro pins s σ H Q I h
 refine B5 PySem.F.slot_dict_getitem.lookup hs (bU (ho pins s σ H _ I h) λu s1 ⟨x,H1,I1,rx,q1⟩=>bU (hi pins s1 σ H1 _ I1 q1) λiv s2 ⟨y,H2,I2,ry,a,v,ex,g,q2⟩=>?_)
 subst ex
 obtain rfl:u=Value.ref a:=rx
 exact⟨A3 I2 g,DG hu I2 g ry λw' s3 I3 rw'=>⟨v,H2,I3,rw',q2⟩⟩
theorem Eg (hu:X.A.units+1<cLine)(hi:PE X i ty)(ho:PE X o td):PC X .NotIn i o (wq ty td):=by
 intro pins s σ H Q I h
 refine bU (hi pins s σ H _ I h) λiv s1 ⟨y,H1,I1,ry,q1⟩=>bU (ho pins s1 σ H1 _ I1 q1) λu s2 ⟨x,H2,I2,rx,a,ov,ex,g,q2⟩=>?_
 subst ex
 obtain rfl:u=Value.ref a:=rx
 exact Hd hu I2 g ry λs3 I3=>⟨.bl (!ov.isSome),H2,I3,rfl,q2⟩
theorem HG (hu:X.A.units+1<cLine)(ho:PE X o td)(hi:PE X i ty)(hv:PE X value tv)(hs:swapsWith value (some (.Subscript o i pos')) pos.line X.env=pure false) :
    PS X (.Assign [.Subscript o i pos'] value pos) (CZ td ty tv):=by
  intro pins s σ H D I h
  refine wpAny_Assign_Subscript (bU (hv pins s σ H _ I h) λr s1 ⟨v,H1,I1,rv,q1⟩=>bU (ho pins s1 σ H1 _ I1 q1) λu s2 ⟨x,H2,I2,rx,q2⟩=>bU (hi pins s2 σ H2 _ I2 q2) λiv s3 ⟨y,H3,I3,ry,a,H4,ex,g,q3⟩=>?_) hs
  subst ex
  obtain rfl:u=Value.ref a:=rx
  exact DH hu I3 g ry rv λs4 I4=>⟨σ,H4,I4,q3⟩
end
theorem Fc {P:Program}{w:World}{H:Hp}(h:Heap)(hb:sysModules<h.objs.size):cT P w H (h.push { cls:=.type "dict",data:=.dict #[] }) h.objs.size (.dK []):=
 ⟨Nat.zero_le _,beq_eq_false_iff_ne.mpr (Ne.symm (Nat.ne_of_lt hb)),[],.nil,Heap.DictOf.new h⟩
def Aa:TE:=λ_ H Q=>∀p,H p=none→Q (.ref p) (upd H p (.dK []))
section
variable {X:Cx}{pos:Pos}
theorem FD:PE X (.Dict [] [] pos) Aa:=λpins s σ H Q I h=>
 wpAny_Dict_empty ⟨.ref s.heap.objs.size,_,I.laid (a:=s.heap.objs.size) (o:=.dK []) (t':=s.toks) (λ_ _ q=>Heap.get?_push_of_some _ q) (Nat.le_refl _) (Fc s.heap I.big),rfl,h _ (I.bb.fresh (Nat.le_refl _))⟩
end
structure M1 (X:Cx)(o:Expr)(m:Str)(apos:Pos)(e:Expr)(cpos:Pos):Prop where
 base:attributeBase o m X.env (eval o X.env)=eval o X.env
 eQ:((backTo cpos (starEach [e] X.env)).all (λx=>!x.1) && (backToKw cpos (keywordEach [] X.env)).all (λx=>x.1.isSome)
  && decide (([e]:List Expr).length+([]:List Keyword).length+(if ([]:List Keyword).isEmpty then 0 else 1)<30))=true
 line:(apos.endLine == cpos.line)=true
 trees:backTo cpos (starEach [e] X.env)=[(false,eval e X.env)]
structure M2 (X:Cx)(o:Expr)(m:Str)(apos:Pos)(e f:Expr)(cpos:Pos):Prop where
 base:attributeBase o m X.env (eval o X.env)=eval o X.env
 eQ:((backTo cpos (starEach [e,f] X.env)).all (λx=>!x.1) && (backToKw cpos (keywordEach [] X.env)).all (λx=>x.1.isSome)
  && decide (([e,f]:List Expr).length+([]:List Keyword).length+(if ([]:List Keyword).isEmpty then 0 else 1)<30))=true
 line:(apos.endLine == cpos.line)=true
 trees:backTo cpos (starEach [e,f] X.env)=[(false,eval e X.env),(false,eval f X.env)]
def Kc (H:Hp)(a:Addr):Prop:=(∃kvs,Rd H a (.dK kvs))∨∃kvs,Rd H a (.dT kvs)
theorem IS {X:Cx}{pins:List (Addr×Obj)}{σ:St}{H:Hp}{s:Shared}{a:Addr}(I:Inv X pins σ H s)(d:Kc H a) :
    s.TypeIs (.ref a) "dict"∧(∀b,Value.ref a = .ref b→∃ob,s.heap.get? b=some ob∧ob.dict=none)∧(a == sysModules)=false:=by
  rcases d with⟨kvs,e⟩|⟨kvs,e⟩
  · obtain⟨_,hd,vs,_,dd⟩:=u1 I.bb e
    refine⟨dd.typeIs,λb q=>?_,hd⟩
    cases q
    obtain⟨ob,_,_,h1,h2,_⟩:=dd
    exact⟨ob,h1,h2.2.1⟩
  · obtain⟨_,hd,xs,_,dd⟩:=u3 I.bb e
    refine⟨dd.typeIs,λb q=>?_,hd⟩
    cases q
    obtain⟨ob,_,_,h1,h2,_⟩:=dd
    exact⟨ob,h1,h2.2.1⟩
section
variable {X:Cx}{pins:List (Addr×Obj)}{σ:St}{H:Hp}{s:Shared}{a:Addr}{y d:V}{u r:Value}{o:Option V}{A:Around}{E:Value→Shared→Prop}
end
def Ab (td ty:TE):TE:=λσ H Q=>td σ H λx H1=>∃a,x = .ref a∧Kc H1 a∧ty σ H1 λy H2=>∃kvs k v,H2 a=some (.dK kvs)∧y=kV k∧dB kvs k=some v∧Q v (upd H2 a (.dK (sf kvs k)))
section
variable {X:Cx}{o e f:Expr}{apos cpos:Pos}{td ty tx:TE}
theorem FE (ho:PE X o td)(he:PE X e ty)(m:M1 X o "pop" apos e cpos):PE X (.Call (.Attribute o "pop" apos) [e] [] cpos) (Ab td ty):=by
 intro pins s σ H Q I h
 refine wpAny_Call_method m.base m.eQ m.line PySem.F.plainAttrs_dict PySem.F.slot_dict_pop PySem.F.type_dict_pop (bU (ho pins s σ H _ I h) λu s1 ⟨x,H1,I1,rx,a,ex,d,q1⟩=>?_)
 subst ex
 obtain rfl:u=Value.ref a:=rx
 obtain⟨t1,t2,_⟩:=IS I1 d
 refine⟨t1,t2,?_⟩
 rw [m.trees]
 refine Calls.callWith_builtin rfl (Calls.evalArgs_plain (Calls.spliced_cons (bU (he pins s1 σ H1 _ I1 q1) λiv s2 ⟨y,H2,I2,ry,kvs,k,v,ea,ey,l,q2⟩=>Calls.spliced_nil ?_)))
 subst ey
 exact JQ I2 ea ry l (.inl rfl) λw' s3 I3 rw'=>⟨v,_,I3,rw',q2⟩
end
section
variable {X:Cx}{pins:List (Addr×Obj)}{σ:St}{H:Hp}{s:Shared}{a:Addr}{kvs:List (Key×V)}{A:Around}{E:Value→Shared→Prop}
end
section
variable {X:Cx}{pins:List (Addr×Obj)}{σ:St}{H:Hp}{s:Shared}{a:Addr}{y:V}{u:Value}{A:Around}{E:Value→Shared→Prop}
end
end L2
namespace HT
open PySem PyProof.Rows
section
open PySem.SeqAt
open PySem.AutoSeq1 (wpAny_loadPart')
open PySem.MeetsSeq PySem.MeetsSeq2 PySem.MeetsSeq3
end
section
variable {prog:Program}{w:World}{A:Around}{E:Value→Shared→Prop}{s:Shared}
noncomputable def kF (n d:Nat):Option Int→Nat
 | none=>d
 | some v=>if v<0 then (v+(n:Int)).toNat else min v.toNat n
theorem zT (n d:Nat):kF n d none=d:=rfl
theorem HL (n d k:Nat):kF n d (some (k:Int))=min k n:=by
 show (if (k:Int)<0 then ((k:Int)+(n:Int)).toNat else min (k:Int).toNat n)=min k n
 rw [if_neg (by omega),Int.toNat_natCast]
end
end HT
namespace L2
open PySem PySem.Spec PyProof.Rows
abbrev TO:=St→Hp→(Option Int→Hp→Prop)→Prop
def PO (X:Cx)(e:Option Expr)(t:TO):Prop:=
 ∀(pins:List (Addr×Obj)) (s:Shared) (σ:St) (H:Hp) (Q:Option Int→Hp→Prop),Inv X pins σ H s→t σ H Q →
  wpAny (model X.prog X.w) X.A (evalPart e X.env) (λu s'=>∃o H',Inv X pins σ H' s'∧IsPart u o∧Q o H') X.xe s
def wu:TO:=λ_ H Q=>Q none H
def Dh (t:TE):TO:=λσ H Q=>t σ H λx H1=>∃i,x = .int i∧Q (some i) H1
theorem intsAre_of {ns:List Int}:∀{us:List Value},Vals (ns.map V.int) us→IntsAre us ns:=by
 induction ns with
 | nil=>intro us r;rw [List.map_nil] at r;cases r;exact .nil
 | cons n ns ih=>
  intro us r
  rw [List.map_cons] at r
  cases r with
  | cons r1 r2=>
   obtain⟨t,e⟩:=r1
   subst e
   exact .cons n t (ih r2)
section
variable {X:Cx}{e:Expr}{te:TE}{lo hi:Option Expr}{tl th:TO}{pos p2:Pos}
theorem oY:PO X none wu:=by
 intro pins s σ H Q I h
 rw [evalPart_none]
 exact wpAny_pure ⟨none,H,I,.none,h⟩
theorem oZ (h:PE X e te):PO X (some e) (Dh te):=by
 intro pins s σ H Q I hw
 rw [evalPart_some]
 refine bU (h pins s σ H _ I hw) λu s1 ⟨x,H1,I1,r1,q1⟩=>?_
 obtain⟨i,rfl,q⟩:=q1
 obtain⟨t,rfl⟩:=r1
 exact⟨some i,H1,I1,.int i t,q⟩
def Iq (X:Cx)(r:V→Option Int→Option Int→Hp→VK→Prop):Prop:=
 ∀(pins:List (Addr×Obj)) (s:Shared) (σ:St) (H:Hp) (x:V) (v vl vu:Value) (lo hi:Option Int) (sl:Addr) (Q:VK),Inv X pins σ H s→RelV x v→s.heap.IsSliceOf sl vl vu .none→IsPart vl lo→IsPart vu hi→r x lo hi H Q →
  ∃T id,typeLookup (.type T) "__getitem__"=pure (some (.builtin id))∧s.TypeIs v T∧wpAny (model X.prog X.w) X.A (getItem v (.ref sl)) (EP X pins σ Q) X.xe s
def JD (r:V→Option Int→Option Int→Hp→VK→Prop)(te:TE)(tl th:TO):TE:=λσ H Q=>te σ H λx H1=>tl σ H1 λl H2=>th σ H2 λu H3=>r x l u H3 Q
theorem nt {r:V→Option Int→Option Int→Hp→VK→Prop}(hr:Iq X r)(he:PE X e te)(hl:PO X lo tl)(hu:PO X hi th):PE X (.Subscript e (.Slice lo hi none p2) pos) (JD r te tl th):=by
 intro pins s σ H Q I h
 refine Subscript_ (bU (he pins s σ H _ I h) λv s1 ⟨x,H1,I1,r1,q1⟩=>?_)
 refine wpAny_Slice (bU (hl pins s1 σ H1 _ I1 q1) λvl s2 ⟨l,H2,I2,pl,q2⟩=>bU (hu pins s2 σ H2 _ I2 q2) λvu s3 ⟨u,H3,I3,pu,q3⟩=>?_)
 rw [evalPart_none]
 refine wpAny_pure ?_
 have I4:Inv X pins σ H3 { s3 with heap:=s3.heap.push { cls:=.type "slice",data:=.fields #[vl,vu,.none] } }:=I3.kept (t':=s3.toks) λb ob q=>Heap.get?_push_of_some _ q
 obtain⟨T,id,hT,ht,hg⟩:=hr pins { s3 with heap:=s3.heap.push { cls:=.type "slice",data:=.fields #[vl,vu,.none] } } σ H3 x v vl vu l u s3.heap.objs.size Q I4 r1 (Heap.IsSliceOf.new ..) pl pu q3
 show wpAny (model X.prog X.w) X.A (subscriptTail e (.Slice lo hi none p2) v (.ref s3.heap.objs.size)) (EP X pins σ Q) X.xe { s3 with heap:=s3.heap.push { cls:=.type "slice",data:=.fields #[vl,vu,.none] } }
 exact tail_any (ops:=[.ref s3.heap.objs.size,v]) ht hT hg (by with_unfolding_all rfl)
noncomputable def qY (xs:List V)(lo hi:Option Int):List V:=(xs.drop (HT.kF xs.length 0 lo)).take (HT.kF xs.length xs.length hi-HT.kF xs.length 0 lo)
theorem AV (xs:List V)(lo hi:Option Int):(qY xs lo hi).length≤xs.length:=by
 unfold qY
 rw [List.length_take,List.length_drop]
 omega
end
open PySem PySem.Spec PyProof.Rows
noncomputable def qp (n:Nat)(i:Int):Option Nat:=if 0≤i then (if i<n then some i.toNat else none) else if -(n:Int)≤i then some (i+n).toNat else none
noncomputable def iX {α:Type}(xs:List α)(i:Int):Option α:=(qp xs.length i).bind λj=>xs[j]?
theorem BK {n:Nat}{i:Int}{j:Nat}(h:qp n i=some j):seqIndex? i n=some j∧j<n∧-(n:Int)≤i∧i<n:=by
 unfold qp at h
 by_cases h0:0≤i
 ·rw [if_pos h0] at h
  by_cases h1:i<n
  ·rw [if_pos h1] at h
   have e:i.toNat=j:=Option.some.inj h
   exact⟨by rw [seqIndex_of h0 h1,e],by omega,by omega,h1⟩
  ·rw [if_neg h1] at h;cases h
 ·rw [if_neg h0] at h
  by_cases h1:-(n:Int)≤i
  ·rw [if_pos h1] at h
   have e:(i+n).toNat=j:=Option.some.inj h
   exact⟨by rw [seqIndex_neg (by omega) h1,e],by omega,h1,by omega⟩
  ·rw [if_neg h1] at h;cases h
theorem BB {α:Type}{xs:List α}{i:Int}{v:α}(h:iX xs i=some v):∃j,seqIndex? i xs.length=some j∧xs[j]?=some v∧j<xs.length∧-(xs.length:Int)≤i∧i<xs.length:=by
 unfold iX at h
 cases e:qp xs.length i with
 | none=>rw [e] at h;cases h
 | some j=>
  rw [e] at h
  obtain⟨h1,h2,h3,h4⟩:=BK e
  exact⟨j,h1,h,h2,h3,h4⟩
theorem aM {α:Type}{xs:List α}{j:Nat}{v:α}(h:xs[j]?=some v):iX xs (j:Int)=some v:=by
 have hj:j<xs.length:=(List.getElem?_eq_some_iff.mp h).1
 have e:qp xs.length (j:Int)=some j:=by
  unfold qp
  rw [if_pos (by omega),if_pos (by omega)];simp
 unfold iX;rw [e];exact h
def G0 (b:Expr):Prop:=∀o i,subscripted b false o i=operate [o,i] (getItem o i)
def Dn (X:Cx)(r:R2):Prop:=
 ∀(value slice:Expr) (pins:List (Addr×Obj)) (s:Shared) (σ:St) (H:Hp) (x y:V) (v u:Value) (Q:VK),Inv X pins σ H s→RelV x v→RelV y u→r x y H Q →
  subscripted slice false v u=operate [v,u] (getItem v u)→wpAny (model X.prog X.w) X.A (subscriptTail value slice v u) (EP X pins σ Q) X.xe s
def Kf (X:Cx)(id:String)(r:V→List V→Hp→VK→Prop):Prop:=
 ∀(pins:List (Addr×Obj)) (s:Shared) (σ:St) (H:Hp) (x:V) (xs:List V) (v:Value) (us:List Value) (Q:VK),Inv X pins σ H s→RelV x v→Vals xs us→r x xs H Q →
  wpAny (model X.prog X.w) X.A (call (.builtin id) (v::us)) (EP X pins σ Q) X.xe s
section
variable {X:Cx}{a b:Expr}{ta tb:TE}{pos:Pos}
theorem ba {r:R2}(hr:Dn X r)(ha:PE X a ta)(hb:PE X b tb)(hs:G0 b):PE X (.Subscript a b pos) (n5 r ta tb):=by
 intro pins s σ H Q I h
 exact Subscript_ (E3 ha hb I h λv u s2 x y H2 I2 rx ry q=>hr a b pins s2 σ H2 x y v u Q I2 rx ry q (hs _ _))
def wg (K:PySem.W.Frag):R2:=λx y H Q=>∃p xs i v,x = .ref p∧y = .int i∧az K H p xs∧iX xs i=some v∧Q v H
def CV (K:PySem.W.Frag):R2:=λx y H Q=>∃p xs i v,x = .ref p∧y = .int i∧dC K H p xs∧iX xs i=some v∧Q v H
theorem bK:Dn X (wg X.K):=by
  intro value slice pins s σ H x y v u Q I rx ry h hs
  obtain⟨p,xs,i,z,rfl,rfl,hq,he,q⟩:=h
  cases rx
  obtain⟨t,rfl⟩:=ry
  obtain⟨its,r,pl,hz⟩:=I.list hq
  obtain⟨j,h1,h2,h3,h4,h5⟩:=BB he
  obtain⟨w,ew,rw'⟩:=r.get h2
  have hl:=r.length
  have hn:=oQ
  have fin:EP X pins σ Q w s:=⟨z,H,I,rw',q⟩
  by_cases h0:0≤i
  · have hj:i.toNat=j:=by
      rw [seqIndex_of h0 h5] at h1
      exact Option.some.inj h1
    exact item_listR pl.isList h0 (by omega) (by rw [hj];simpa using ew) fin hs
  · have hj:(i+(its.toArray.size:Int)).toNat=j:=by
      rw [seqIndex_neg (by omega) h4] at h1
      rw [List.size_toArray,←hl]
      exact Option.some.inj h1
    exact subscriptTail_builtinR (x:=w) pl.isList.typeIs slot_list_getitem.lookup
      (wpAny_getItem_list_neg (Q:=λr s'=>r=w∧EP X pins σ Q r s') pl.isList (by omega) (by rw [List.size_toArray]<;>omega) (by omega) (by rw [hj];simpa using ew) ⟨rfl,fin⟩) hs
theorem cR:Dn X (CV X.K):=by
 intro value slice pins s σ H x y v u Q I rx ry h hs
 obtain⟨p,xs,i,z,rfl,rfl,hq,he,q⟩:=h
 cases rx
 obtain⟨t,rfl⟩:=ry
 obtain⟨its,r,pl,hz⟩:=I.tuple hq
 obtain⟨j,h1,h2,h3,h4,h5⟩:=BB he
 obtain⟨w,ew,rw'⟩:=r.get h2
 have hl:=r.length
 have hn:=oQ
 have fin:EP X pins σ Q w s:=⟨z,H,I,rw',q⟩
 exact subscriptTail_builtinR (x:=w) pl.typeIs slot_tuple_getitem.lookup
  (getItem_tuple (j:=j) (Q:=λr s'=>r=w∧EP X pins σ Q r s') pl (by omega) (by omega) (by rw [List.size_toArray,←hl];exact h1) (by simpa using ew) ⟨rfl,fin⟩) hs
theorem CL (its:List Value)(n j:Nat)(u:Value):Obj.mapSeq (·.setIfInBounds j u) { cls:=.type "list",data:=.seq its.toArray n }={ cls:=.type "list",data:=.seq (its.set j u).toArray n }:=by
 simp [Obj.mapSeq]
theorem Inv.lst {pins:List (Addr×Obj)}{σ:St}{H:Hp}{s:Shared}{p:Addr}{xs:List V}(I:Inv X pins σ H s)(h:H p=some (.lst xs)) :
    ∃(its:List Value) (n:Nat),Vals xs its∧s.heap.get? p=some { cls:=.type "list",data:=.seq its.toArray n }∧xs.length≤sizeLine:=by
  obtain⟨z,its,n,r,e⟩:=I.bb p _ h
  exact⟨its,n,r,e,z⟩
theorem Inv.Ja {pins:List (Addr×Obj)}{σ:St}{H:Hp}{s:Shared}{p:Addr}{xs ys:List V}{its its':List Value}{n n':Nat}{f:Obj→Obj}(I:Inv X pins σ H s)(h:H p=some (.lst xs))
    (ho:s.heap.get? p=some { cls:=.type "list",data:=.seq its.toArray n }) (hf:f { cls:=.type "list",data:=.seq its.toArray n }={ cls:=.type "list",data:=.seq its'.toArray n' }) (r:Vals ys its') (hz:ys.length≤sizeLine) (t:Nat) :
    Inv X pins σ (upd H p (.lst ys)) { s with heap:=s.heap.update p f,toks:=t }:=by
  have e:(s.heap.update p f).get? p=some { cls:=.type "list",data:=.seq its'.toArray n' }:=by
    rw [Heap.get?_update_self f ho (by rw [hf]<;>rfl),hf]
  refine I.write (x:=p) (e:=p) (by rw [h];trivial) (.inl rfl) (λb u hb q=>(Heap.get?_update_other _ _ (Ne.symm hb)).trans q) ⟨_,e⟩ ?_
  exact⟨hz,its',n',r,e⟩
def CW:V→V→V→Hp→(Hp→Prop)→Prop:=λo i v H Q=>∃p xs k j,o = .ref p∧i = .int k∧H p=some (.lst xs)∧qp xs.length k=some j∧Q (upd H p (.lst (xs.set j v)))
theorem set_list:E1 X CW:=by
  intro pins s σ H o i v ov iv u Q I ro ri rv h
  obtain⟨p,xs,k,j,rfl,rfl,hp,hj,q⟩:=h
  cases ro
  obtain⟨t,rfl⟩:=ri
  obtain⟨its,n,r,ho,hz⟩:=I.lst hp
  obtain⟨h1,h2,h3,h4⟩:=BK hj
  have hl:=r.length
  have hn:=oQ
  have I':Inv X pins σ (upd H p (.lst (xs.set j v))) { s with heap:=s.heap.update p (Obj.mapSeq (·.setIfInBounds j u)) }:=
    I.Ja hp ho (CL its n j u) (r.set rv j) (by rw [List.length_set];exact hz) s.toks
  by_cases h0:0≤k
  · have hk:k.toNat=j:=by
      rw [seqIndex_of h0 h4] at h1
      exact Option.some.inj h1
    exact PySem.W.ki_setAt ho h0 (by omega) (by rw [List.size_toArray,←hl];exact h4) (by rw [hk];exact⟨_,I',q⟩)
  · have hk:(k+(its.toArray.size:Int)).toNat=j:=by
      rw [seqIndex_neg (by omega) h3] at h1
      rw [List.size_toArray,←hl]
      exact Option.some.inj h1
    exact PySem.W.ki_setBack ho (by omega) (by rw [List.size_toArray,←hl];exact h3) (by omega) (by rw [hk];exact⟨_,I',q⟩)
theorem zV (lo hi:Option Int)(n:Nat):(sliceBounds lo hi none n).1=((HT.kF n 0 lo:Nat):Int)∧(sliceBounds lo hi none n).2.1=((HT.kF n n hi:Nat):Int)∧(sliceBounds lo hi none n).2.2=1:=by
 refine⟨?_,?_,rfl⟩
 ·cases lo with
  | none=>simp [sliceBounds,HT.kF]
  | some i=>
   simp only [sliceBounds,HT.kF,Option.getD_none,show (1:Int) > 0 by decide,if_true]
   by_cases h:i<0
   ·simp only [h,if_true]<;>omega
   ·simp only [h,if_false]<;>omega
 ·cases hi with
  | none=>simp [sliceBounds,HT.kF]
  | some i=>
   simp only [sliceBounds,HT.kF,Option.getD_none,show (1:Int) > 0 by decide,if_true]
   by_cases h:i<0
   ·simp only [h,if_true]<;>omega
   ·simp only [h,if_false]<;>omega
theorem xR (its:List Value)(lo hi:Option Int):slicePick its.toArray lo hi none=((its.drop (HT.kF its.length 0 lo)).take (HT.kF its.length its.length hi-HT.kF its.length 0 lo)).toArray:=by
 obtain⟨h1,h2,h3⟩:=zV lo hi its.toArray.size
 unfold slicePick
 rw [h1,h2,h3]
 simp only [sliceRange_one,pick_run,List.size_toArray]<;>rfl
def FI (K:PySem.W.Frag):V→Option Int→Option Int→Hp→VK→Prop:=λx lo hi H Q=>∃a xs,x = .ref a∧az K H a xs∧∀p,H p=none→Q (.ref p) (upd H p (.lst (qY xs lo hi)))
theorem wk:Iq X (FI X.K):=by
 intro pins s σ H x v vl vu lo hi sl Q I rx hs pl pu h
 obtain⟨a,xs,rfl,hx,q⟩:=h
 cases rx
 obtain⟨its,r,ht,hz⟩:=I.list hx
 have hlen:=r.length
 refine⟨"list",_,slot_list_getitem.lookup,ht.isList.typeIs,?_⟩
 refine wpAny_getItem_list_slice ht.isList hs pl pu .none (by simp) ?_ (by rw [List.size_toArray]<;>omega)
 rw [xR,←hlen]
 refine⟨.ref s.heap.objs.size,_,I.laid (t':=s.toks) (o:=.lst (qY xs lo hi)) (λb ob q=>Heap.get?_push_of_some _ q) (Nat.le_refl _) ?_,rfl,q _ (I.bb.fresh (Nat.le_refl _))⟩
 exact⟨Nat.le_trans (AV xs lo hi) hz,_,0,(r.drop (HT.kF xs.length 0 lo)).take (HT.kF xs.length xs.length hi-HT.kF xs.length 0 lo),Heap.get?_push_size _ rfl⟩
theorem cv:fz X (.builtin "len") (λxs H Q=>∃p ys,xs=[.ref p]∧(az X.K H p ys∨dC X.K H p ys)∧Q (.int ys.length) H):=by
 intro pins s σ H xs us Q I r h
 obtain⟨p,ys,rfl,hq,q⟩:=h
 obtain⟨u,rfl,rx⟩:=vals1 r
 cases rx
 have hn:=oQ
 rcases hq with hq|hq
 ·obtain⟨its,r',pl,hz⟩:=I.list hq
  have hlen:=r'.length
  exact Calls.call_len_list pl.isList (by simp only [List.size_toArray]<;>omega) ⟨.int ys.length,H,I.tok _,⟨s.toks+1,by rw [List.size_toArray,hlen]⟩,q⟩
 ·obtain⟨its,r',pl,hz⟩:=I.tuple hq
  have hlen:=r'.length
  exact len_tuple pl (by simp only [List.size_toArray]<;>omega) ⟨.int ys.length,H,I.tok _,⟨s.toks+1,by rw [List.size_toArray,hlen]⟩,q⟩
theorem kj:fz X (.builtin "len") (λxs H Q=>∃z,xs=[.str z]∧z.length≤sizeLine∧Q (.int z.length) H):=by
 intro pins s σ H xs us Q I r h
 obtain⟨z,rfl,hz,q⟩:=h
 obtain⟨u,rfl,t,rfl⟩:=vals1 r
 have hn:=oQ
 exact len_str (by omega) ⟨.int z.length,H,I.tok _,⟨_,rfl⟩,q⟩
theorem gH:fz X (.type "list") (λxs H Q=>∃p ys,xs=[.ref p]∧(az X.K H p ys∨dC X.K H p ys)∧∀l,H l=none→Q (.ref l) (upd H l (.lst ys))):=by
  intro pins s σ H xs us Q I r h
  obtain⟨p,ys,rfl,hq,q⟩:=h
  obtain⟨u,rfl,rx⟩:=vals1 r
  cases rx
  have fin:∀(its:List Value),Vals ys its→ys.length≤sizeLine→∀(h':Heap) (c':Nat),(∀b o',s.heap.get? b=some o'→h'.get? b=some o') →
      h'.get? s.heap.objs.size=some { cls:=.type "list",dict:=none,data:=.seq its.toArray c',slots:=#[] }→EP X pins σ Q (.ref s.heap.objs.size) { s with heap:=h' }:=λits r' hz h' c' kp e=>
    ⟨.ref s.heap.objs.size,_,I.laid (t':=s.toks) kp (Nat.le_refl _) (show cT X.prog X.w _ h' _ (.lst ys) from ⟨hz,its,c',r',e⟩),rfl,q _ (I.bb.fresh (Nat.le_refl _))⟩
  rcases hq with hq|hq
  · obtain⟨its,r',pl,hz⟩:=I.list hq
    have hlen:=r'.length
    obtain⟨o,ho,hc,n,hd⟩:=pl.isList
    exact call_list_seq p (.inl rfl) ho hc hd (λh' c' kp e=>fin its r' hz h' c' kp e) (by simp only [List.size_toArray]<;>omega)
  · obtain⟨its,r',pl,hz⟩:=I.tuple hq
    have hlen:=r'.length
    obtain⟨o,ho,hc,n,hd⟩:=pl
    exact call_list_seq p (.inr rfl) ho hc hd (λh' c' kp e=>fin its r' hz h' c' kp e) (by simp only [List.size_toArray]<;>omega)
def Cc (K:PySem.W.Frag)(T:String)(x:V)(H:Hp):Prop:=match x with
  | .str _=>T="str"
  | .int _=>T="int"
  | .ref p=>(T="list"∧∃xs,az K H p xs)∨(T="tuple"∧∃o,K.lookup p=some o∧o.cls = .type "tuple"∧o.dict=none) ∨
      (T="dict"∧((∃kvs,H p=some (.dK kvs))∨∃kvs,H p=some (.dT kvs)))∨(T="set"∧∃S n,H p=some (.set S n))
  | _=>False
theorem ER {pins:List (Addr×Obj)}{σ:St}{H:Hp}{s:Shared}{T:String}{x:V}{v:Value}(I:Inv X pins σ H s)(r:RelV x v)(ty:Cc X.K T x H) :
    s.TypeIs v T∧∀a,v = .ref a→∃ob,s.heap.get? a=some ob∧ob.dict=none:=by
  cases x with
  | str z=>
    obtain⟨t,rfl⟩:=r
    cases (show T="str" from ty)
    exact⟨typeIs_str s z t,λ_ e=>nomatch e⟩
  | int i=>
    obtain⟨t,rfl⟩:=r
    cases (show T="int" from ty)
    exact⟨typeIs_int s i t,λ_ e=>nomatch e⟩
  | ref p=>
    cases r
    rcases ty with⟨rfl,xs,hq⟩|⟨rfl,o,hk,hc,hd⟩|⟨rfl,hk⟩|⟨rfl,S,n,hk⟩
    · obtain⟨its,_,pl,_⟩:=I.list hq
      refine⟨pl.isList.typeIs,λa e=>?_⟩
      cases e
      obtain⟨o,n,e,c,hd,_⟩:=pl
      exact⟨o,e,hd⟩
    · refine⟨⟨o,I.fA p o hk,hc⟩,λa e=>?_⟩
      cases e
      exact⟨o,I.fA _ o hk,hd⟩
    · have z:∃o,s.heap.get? p=some o∧o.ExactDict:=by
        rcases hk with⟨kvs,hk⟩|⟨kvs,hk⟩
        · obtain⟨_,_,_,_,o,_,_,e,ex,_⟩:=I.bb p _ hk
          exact⟨o,e,ex⟩
        · obtain⟨_,_,_,_,o,_,_,e,ex,_⟩:=I.bb p _ hk
          exact⟨o,e,ex⟩
      obtain⟨o,e,ex⟩:=z
      refine⟨⟨o,e,ex.1⟩,λa e2=>?_⟩
      cases e2
      exact⟨o,e,ex.2.1⟩
    · obtain⟨o,_,_,_,e,ex,_⟩:=I.bb p _ hk
      refine⟨⟨o,e,ex.1⟩,λa e2=>?_⟩
      cases e2
      exact⟨o,e,ex.2.1⟩
  | _=>exact False.elim ty
def FW (K:PySem.W.Frag)(T:String)(r:V→List V→Hp→VK→Prop)(to:TE):TE:=λσ H Q=>to σ H λx H1=>Cc K T x H1∧r x [] H1 Q
def Jz (K:PySem.W.Frag)(T:String)(r:V→List V→Hp→VK→Prop)(to:TE)(t:TA):TE:=λσ H Q=>to σ H λx H1=>Cc K T x H1∧t σ H1 λxs H2=>r x xs H2 Q
variable {o e:Expr}{es:List Expr}{to:TE}{t:TA}{name:Str}{apos cpos:Pos}{T id:String}{r:V→List V→Hp→VK→Prop}
theorem Jo (pa:PlainAttrs T)(slot:Slot T name id)(hty:typeOf (.builtin id)=pure (.type "method_descriptor"))(hm:Kf X id r)(ho:PE X o to)
    (hbase:attributeBase o name X.env (eval o X.env)=eval o X.env:=by rfl) (hline:(apos.endLine == cpos.line)=true:=by rfl):PE X (.Call (.Attribute o name apos) [] [] cpos) (FW X.K T r to):=by
  intro pins s σ H Q I h
  refine wpAny_Call_method0_late hbase hline (bU (ho pins s σ H _ I h) λv s1 ⟨x,H1,I1,r1,ty,q1⟩=>?_)
  obtain⟨h1,h2⟩:=ER I1 r1 ty
  exact⟨T,id,pa,slot,hty,h1,h2,Calls.callWith_builtin rfl (PySem.evalArgs_none (hm pins s1 σ H1 x [] v [] Q I1 r1 .nil q1))⟩
theorem jf (pa:PlainAttrs T)(slot:Slot T name id)(hty:typeOf (.builtin id)=pure (.type "method_descriptor"))(hm:Kf X id r)(ho:PE X o to)(ha:PA X (e::es) t)
    (hbase:attributeBase o name X.env (eval o X.env)=eval o X.env:=by rfl)
    (hfew:((backTo cpos (starEach (e::es) X.env)).all (λx=>!x.1) && (backToKw cpos (keywordEach [] X.env)).all (λx=>x.1.isSome)
      && decide ((e::es).length+([]:List Keyword).length+(if ([]:List Keyword).isEmpty then 0 else 1)<30))=true:=by rfl)
    (hline:(apos.endLine == cpos.line)=true:=by rfl) (hs:starEach (e::es) X.env=(false,eval e X.env)::starEach es X.env:=by rfl) (hplain:(backTo cpos (starEach es X.env)).any (·.1)=false:=by rfl) :
    PE X (.Call (.Attribute o name apos) (e::es) [] cpos) (Jz X.K T r to t):=by
  intro pins s σ H Q I h
  refine wpAny_Call_method_late hbase hfew hline rfl (bU (ho pins s σ H _ I h) λv s1 ⟨x,H1,I1,r1,ty,q1⟩=>?_)
  obtain⟨h1,h2⟩:=ER I1 r1 ty
  refine⟨T,id,pa,slot,hty,h1,h2,?_⟩
  have hA:=ha cpos pins s1 σ H1 _ I1 q1
  rw [hs] at hA ⊢
  refine Calls.callWith_builtin (by show (false || (backTo cpos (starEach es X.env)).any (·.1))=false;rw [hplain]<;>rfl) (Calls.evalArgs_plain ?_)
  exact bU hA λus s2 ⟨vs,H2,I2,r2,q2⟩=>hm pins s2 σ H2 x vs v us Q I2 r1 r2 q2
end
open PySem PySem.Spec PyProof.Rows
def By (X:Cx)(id:String)(r:V→List V→Hp→VK→Prop):Prop:=
 ∀(pins:List (Addr×Obj)) (s:Shared) (σ:St) (H:Hp) (x:V) (xs:List V) (v:Value) (us:List Value) (Q:VK),Inv X pins σ H s→RelV x v→Vals xs us→r x xs H Q →
  wpAny (model X.prog X.w) X.A (call (.builtin id) (v::us)) (EP X pins σ Q) X.xe s
theorem Vals.one:∀{x:V} {us:List Value},Vals [x] us→∃u,us=[u]∧RelV x u
 | _,_,.cons r .nil=>⟨_,rfl,r⟩
theorem Vals.zero:∀{us:List Value},Vals [] us→us=[]
 | _,.nil=>rfl
theorem Vals.dropLast {xs:List V}{us:List Value}(h:Vals xs us):Vals xs.dropLast us.dropLast:=by
 induction h with
 | nil=>exact .nil
 | cons r t ih=>
  cases t with
  | nil=>exact .nil
  | cons q t'=>exact .cons r ih
theorem Vals.rep {xs:List V}{us:List Value}(h:Vals xs us):∀k:Nat,Vals (List.replicate k xs).flatten (List.replicate k us).flatten
 | 0=>.nil
 | k+1=>by
  rw [List.replicate_succ,List.replicate_succ,List.flatten_cons,List.flatten_cons]
  exact Vals.append h (Vals.rep h k)
theorem CB {α:Type}(l:List α):l.eraseIdx (l.length-1)=l.dropLast:=by
 induction l with
 | nil=>rfl
 | cons a r ih=>
  cases r with
  | nil=>rfl
  | cons b r=>
   have e:(a::b::r).length-1=((b::r).length-1)+1:=by
    have h1:(a::b::r).length=r.length+2:=rfl
    have h2:(b::r).length=r.length+1:=rfl
    omega
   rw [e,List.eraseIdx_cons_succ,ih]
   all_goals rfl
theorem foldl_rep (its:List Value):∀(k:Nat) (acc:List Value),
    List.foldl (λx1 x2=>x1++x2) acc.toArray (List.replicate k its.toArray)=(acc++(List.replicate k its).flatten).toArray
  | 0,acc=>by simp
  | k+1,acc=>by
    have e:acc.toArray++its.toArray=(acc++its).toArray:=by simp
    have e2:(acc++its)++(List.replicate k its).flatten=acc++(List.replicate (k+1) its).flatten:=by
      rw [List.replicate_succ,List.flatten_cons,List.append_assoc]
    rw [←e2,←foldl_rep its k (acc++its),←e,List.replicate_succ,List.foldl_cons]
section
variable {X:Cx}{pins:List (Addr×Obj)}{σ:St}{H:Hp}{s:Shared}{l b:Addr}{xs ys zs:List V}
theorem Inv.Ft {its its':List Value}{n:Nat}{f:Array Value→Array Value}{t':Nat}(I:Inv X pins σ H s)(hH:H l=some (.lst xs))
    (e:s.heap.get? l=some { cls:=.type "list",data:=.seq its.toArray n }) (hf:f its.toArray=its'.toArray) (hv:Vals ys its') (hz:ys.length≤sizeLine) :
    Inv X pins σ (upd H l (.lst ys)) { s with heap:=s.heap.update l (Obj.mapSeq f),toks:=t' }:=by
  have q:=PySem.IsL.update e f
  rw [hf] at q
  refine I.write (x:=l) (e:=l) (by rw [hH];exact trivial) (.inl rfl) (λb' u hb hu=>(Heap.get?_update_other s.heap (Obj.mapSeq f) (Ne.symm hb)).trans hu) ⟨_,q⟩ ?_
  exact⟨hz,its',_,hv,q⟩
theorem Inv.I0 {its:List Value}{t':Nat}(I:Inv X pins σ H s)(hv:Vals ys its)(hz:ys.length≤sizeLine) :
    Inv X pins σ (upd H s.heap.objs.size (.lst ys)) { s with heap:=s.heap.push { cls:=.type "list",data:=.seq its.toArray },toks:=t' }:=
  I.laid (λ_ _ q=>Heap.get?_push_of_some _ q) (Nat.le_refl _) ⟨hz,its,0,hv,Heap.get?_push_size _ rfl⟩
theorem Inv.fresh (I:Inv X pins σ H s):H s.heap.objs.size=none:=I.bb.fresh (Nat.le_refl _)
theorem Inv.uh (I:Inv X pins σ H s)(hH:H l=some (.lst xs)):xs.length≤sizeLine∧∃(its:List Value) (n:Nat),Vals xs its∧xs.length=its.length∧s.heap.get? l=some { cls:=.type "list",data:=.seq its.toArray n }:=by
 obtain⟨z,its,n,r,e⟩:=I.bb l _ hH
 exact⟨z,its,n,r,r.length,e⟩
theorem zh {n:Nat}(h:n≤sizeLine):Builtin.List.listTooLong n=false:=by
 unfold Builtin.List.listTooLong
 exact decide_eq_false (by omega)
end
section
variable {X:Cx}
def wc:V→List V→Hp→VK→Prop:=λx vs H Q=>∃l xs y,x = .ref l∧vs=[y]∧H l=some (.lst xs)∧xs.length<sizeLine∧Q .cU (upd H l (.lst (xs++[y])))
theorem xa:By X "list.append" wc:=by
 intro pins s σ H x vs v us Q I rx rv h
 obtain⟨l,xs,y,rfl,rfl,hH,hz,q⟩:=h
 cases rx
 obtain⟨u,rfl,ru⟩:=rv.one
 obtain⟨z,its,n,r,hl,e⟩:=I.uh hH
 refine call_meets F.slot_list_append ⟨_,e,rfl⟩ F.entry_list_append (F.args_list_append_2 _ _) (PySem.list_append l its.toArray n u (by rw [List.size_toArray];omega)) ⟨e,?_⟩
 refine⟨.cU,_,I.Ft (its':=its++[u]) hH e (by simp) (r.append (.cons ru .nil)) ?_,rfl,q⟩
 rw [List.length_append,List.length_singleton]
 omega
def we:V→List V→Hp→VK→Prop:=λx vs H Q=>∃l b xs zs,x = .ref l∧vs=[.ref b]∧H l=some (.lst xs)∧H b=some (.lst zs)∧xs.length+zs.length≤sizeLine∧Q .cU (upd H l (.lst (xs++zs)))
theorem xb:By X "list.extend" we:=by
 intro pins s σ H x vs v us Q I rx rv h
 obtain⟨l,b,xs,zs,rfl,rfl,hH,hB,hz,q⟩:=h
 cases rx
 obtain⟨u,rfl,ru⟩:=rv.one
 cases ru
 obtain⟨z,its,n,r,hl,e⟩:=I.uh hH
 obtain⟨z2,its2,n2,r2,hl2,e2⟩:=I.uh hB
 have hsz:its.toArray.size+its2.toArray.size≤sizeLine:=by rw [List.size_toArray,List.size_toArray];omega
 have hlong:¬(!its.toArray.isEmpty && Builtin.List.listTooLong (its.toArray.size+its2.toArray.size))=true:=by
  rw [zh hsz,Bool.and_false]
  exact Bool.false_ne_true
 refine call_meets F.slot_list_extend ⟨_,e,rfl⟩ F.entry_list_extend (F.args_list_extend_2 _ _)
  (AutoSeq1.list_extend_list_list_0 l its.toArray n b its2.toArray n2 hlong (by rw [List.size_toArray];omega) (by omega)) ⟨e,e2,?_⟩
 refine⟨.cU,_,I.Ft (its':=its++its2) hH e (by simp) (r.append r2) ?_,rfl,q⟩
 rw [List.length_append]
 omega
def Jt:V→List V→Hp→VK→Prop:=λx vs H Q=>∃l xs y,x = .ref l∧vs=[]∧H l=some (.lst xs)∧xs[xs.length-1]?=some y∧Q y (upd H l (.lst xs.dropLast))
theorem Jb:By X "list.pop" Jt:=by
 intro pins s σ H x vs v us Q I rx rv h
 obtain⟨l,xs,y,rfl,rfl,hH,hy,q⟩:=h
 cases rx
 have hus:=rv.zero
 subst hus
 obtain⟨z,its,n,r,hl,e⟩:=I.uh hH
 obtain⟨u,hu,ru⟩:=r.get hy
 have hy':its.toArray[its.toArray.size-1]?=some u:=by
  show its.toArray[its.length-1]?=some u
  rw [←Array.getElem?_toList,←hl]
  exact hu
 refine call_meets F.slot_list_pop ⟨_,e,rfl⟩ F.entry_list_pop (F.args_list_pop_1 _) (MeetsSeq.list_pop_last l its.toArray n u hy' (by rw [List.size_toArray];omega)) ⟨e,?_⟩
 refine⟨y,_,I.Ft (its':=its.dropLast) hH e ?_ r.dropLast ?_,ru,q⟩
 ·show its.toArray.eraseIdxIfInBounds (its.toArray.size-1)=its.dropLast.toArray
  rw [List.size_toArray,List.eraseIdxIfInBounds_toArray,CB]
 ·rw [List.length_dropLast]
  omega
def FG:R2:=λx y H Q=>∃l b xs zs,x = .ref l∧y = .ref b∧H l=some (.lst xs)∧H b=some (.lst zs)∧xs.length+zs.length≤sizeLine∧∀p,H p=none→Q (.ref p) (upd H p (.lst (xs++zs)))
theorem Ji:gC X (binaryOp .Add) FG:=by
 intro pins s σ H x y v u Q I rx ry h
 obtain⟨l,b,xs,zs,rfl,rfl,hH,hB,hz,q⟩:=h
 cases rx
 cases ry
 obtain⟨z,its,n,r,hl,e⟩:=I.uh hH
 obtain⟨z2,its2,n2,r2,hl2,e2⟩:=I.uh hB
 refine PySem.P.add_list e e2 ?_ (by rw [List.size_toArray,List.size_toArray];omega)
 have ea:its.toArray++its2.toArray=(its++its2).toArray:=by simp
 rw [ea]
 exact⟨.ref _,_,I.I0 (t':=s.toks) (r.append r2) (by rw [List.length_append];omega),rfl,q _ I.fresh⟩
def FH:R2:=λx y H Q=>∃l k xs,x = .ref l∧y = .int k∧H l=some (.lst xs)∧-(2^63)≤k∧k<2^63∧xs.length*k.toNat≤sizeLine ∧
 ∀p,H p=none→Q (.ref p) (upd H p (.lst (List.replicate k.toNat xs).flatten))
theorem len_rep {α:Type}(xs:List α)(k:Nat):(List.replicate k xs).flatten.length=k*xs.length:=by
 induction k with
 | zero=>simp
 | succ k ih=>rw [List.replicate_succ,List.flatten_cons,List.length_append,ih,Nat.succ_mul,Nat.add_comm]
theorem Ee:gC X (binaryOp .Mult) FH:=by
 intro pins s σ H x y v u Q I rx ry h
 obtain⟨l,k,xs,rfl,rfl,hH,h1,h2,hz,q⟩:=h
 cases rx
 obtain⟨t,rfl⟩:=ry
 obtain⟨z,its,n,r,hl,e⟩:=I.uh hH
 have hlen:its.toArray.size*k.toNat≤sizeLine:=by rw [List.size_toArray,←hl];exact hz
 have hcap:¬its.toArray.size*k.toNat > (2^63-1)/8:=by
  have:(sizeLine:Nat)≤(2^63-1)/8:=by decide
  omega
 have hfit:¬(!Builtin.List.listFitsIndex k)=true:=by
  rw [fitsIndex_both h1 h2]
  exact Bool.false_ne_true
 have hlong:¬Builtin.List.listTooLong (its.toArray.size*k.toNat)=true:=by
  rw [zh hlen]
  exact Bool.false_ne_true
 have hnew:List.foldl (λx1 x2=>x1++x2) #[] (List.replicate (if its.toArray.isEmpty=true then 0 else k.toNat) its.toArray)=(List.replicate k.toNat its).flatten.toArray:=by
  have f0:∀m:Nat,List.foldl (λx1 x2=>x1++x2) #[] (List.replicate m its.toArray)=(List.replicate m its).flatten.toArray:=λm=>by
   have:=foldl_rep its m []
   rw [List.nil_append] at this
   exact this
  rw [f0]
  cases its with
  | nil=>simp
  | cons a r'=>rw [if_neg (by simp)]
 refine wpAny_binaryOp_repeat_ref (T:="list") (U:="int") (by decide) ⟨_,e,rfl⟩ (λs'=>typeIs_int s' k t) noFill_list_mul F.fills_int_mul F.slot_int_rmul repeat_list F.slot_int_index.lookup
  (call_meets F.slot_int_rmul (typeIs_int s k t) F.entry_int_rmul (F.args_int_rmul_2 _ _) (int___rmul___int_list k t l its.toArray n)
   ⟨e,rfl,⟨_,e,rfl⟩,call_meets F.slot_list_mul ⟨_,e,rfl⟩ F.entry_list_mul (F.args_list_mul_2 _ _) (AutoListH.list___mul___list_int_3 l its.toArray n k t hfit hcap hlong) ⟨e,?_⟩⟩)
 rw [hnew]
 exact⟨.ref _,_,I.I0 (t':=s.toks) (r.rep k.toNat) (by rw [len_rep,Nat.mul_comm];exact hz),rfl,q _ I.fresh⟩
end
section
variable {prog:Program}{w:World}{A:Around}{E:Value→Shared→Prop}{s:Shared}
set_option maxRecDepth 100000 in
end
section
variable {X:Cx}
end
end L2
namespace Att
open PySem PySem.W PySem.Calls PyProof.Rows
theorem vc {P:Params}{h:Heap}:∀(ns:List Int) (vs:List Value),WellAll P h vs (ns.map WData.int)→IntsAre vs ns:=by
 intro ns
 induction ns with
 | nil=>
  intro vs w
  rw [List.map_nil] at w
  cases w
  exact .nil
 | cons n ns ih=>
  intro vs w
  rw [List.map_cons] at w
  cases w with
  | cons a b=>
   cases a
   exact .cons _ _ (ih _ b)
theorem xj {l:OpenLaw}{n:Nat}(hn:l.most=some n){P:Params}{h:Heap}{args:List WData}{vals:List Value}
    (hpre:l.row.toRowW.claim.pre args=true) (hwl:WellAll P h vals args) :
    ∃a vs ns,vals=[Value.ref a]∧args=[WData.list (ns.map WData.int)]∧h.get? a=some { cls:=.type "list",data:=.seq vs.toArray }∧IntsAre vs ns∧ns.length≤n:=by
  have hsh:WShape.hasAll [] args [.list .int]=true:=(pre_splitW hpre).1
  have hc:l.pre.holds [] { args:=args }=true:=(pre_splitW hpre).2
  obtain⟨d,r,rfl,h1,h2⟩:=hasAllW_cons hsh
  obtain rfl:=hasAllW_nil h2
  obtain⟨xs,rfl,h3⟩:=hasW_list h1
  obtain⟨ns,rfl⟩:=items_int h3
  have hlen:ns.length≤n:=by
    unfold OpenLaw.pre at hc
    have h4:(WTm.not (.lt (.lit (.int (n:Int))) (.len (.arg 0)))).holds [] { args:=[.list (ns.map .int)] }=true:=by
      have h4:=(holds_andW hc).1
      rw [hn] at h4
      exact h4
    have h5:=condW_of h4 (w_not (w_lt w_lit (w_len_list (w_arg rfl))))
    rw [List.length_map] at h5
    refine Nat.le_of_not_lt λq=>?_
    have q':(n:Int)<((ns.length:Nat):Int):=by omega
    first
      | (rw [decide_eq_true q'] at h5;exact absurd h5 (by decide))
      | (simp at h5;omega)
  cases hwl with
  | cons w1 w2=>
    cases w2
    cases w1 with
    | list ho hall=>exact⟨_,_,ns,rfl,rfl,ho,vc ns _ hall,hlen⟩
theorem xh (l:OpenLaw)(args:List WData):l.row.toRowW.claim.post args (.bool true) args=true:=
 postW_of (r:=l.row.toRowW) (X:=(true == true))
  (show WShape.has [] (.bool true) .bool=true by first | rfl | decide | simp [WShape.has,WShape.arms,WShape.armsAll])
  (show (WTm.eq .res (.lit (.bool true))).value [] { args:=args,res:=some (.bool true),after:=args }=some (.bool (true == true)) from w_eq_bool (w_res rfl) w_lit) rfl
theorem AO {l:OpenLaw}{n:Nat}{q:Program}{loose:List Str}{XP:(Str→Option Value)→Heap→Prop}{YP:World→Heap→Prop}{d:DefRec}
    (hn:l.most=some n) (hdf:d.params.defaults=[])
    (call:∀(w:World) (s₀ s₁:Shared) (mg mb:Str→Option Value) (fa:Addr) (o:Obj) (pm cd doc:Value) (a:Addr) (vs:List Value) (ns:List Int),
      Ground q loose [] XP w s₀ mg mb s₁.heap→YP w s₁.heap →
      s₁.heap.get? fa=some o→o.data = .func (docDef d.name d.params d.body d.scope pm cd doc)→s₁.heap.CodeRec cd d.name→mg d.name=some (.ref fa) →
      s₁.heap.get? a=some { cls:=.type "list",data:=.seq vs.toArray }→IntsAre vs ns→ns.length≤n→s₁.gens=#[] →
      codeAny (model l.prog w) callerA (.call (.ref fa) ⟨[.ref a],[]⟩) (λr s'=>r = .ok (.ret (.bool true))∧OldK s₁.heap s'.heap∧s'.os=s₁.os∧AllBare s'.gens) s₁) :
    WalkO q loose XP YP l.row.toRowW d [] (λf vs=>PySem.call f vs):=by
  intro w s₀ s₁ mg mb G Y fa o pm cd doc dV kV ho hd hcd hD hmg hg args vals as hpre hlay hrd hwl hlo
  obtain rfl:dV = .none:=Dflts.none hD hdf
  obtain rfl:kV = .none:=Dflts.noKw hD
  obtain⟨a,vs,ns,rfl,rfl,hobj,hints,hlen⟩:=xj hn hpre hwl
  refine enter_call (codeAny_mono (call w s₀ s₁ mg mb fa o pm cd doc a vs ns G Y ho (fd_plain hd) hcd hmg hobj hints hlen hg) λr s' hq=>?_)
  obtain⟨rfl,h2,h3,h4⟩:=hq
  exact⟨.inl ⟨.bool true,.bool true,[],rfl,λ_=>rfl,.bool true,xh l _,λ_=>⟨List.Pairwise.nil,λ_ hm=>(nomatch hm)⟩⟩,h2,h3,h4⟩
section
variable {prog:Program}{w:World}{A:Around}{E:Value→Shared→Prop}{s:Shared}{K:Frag}
end
end Att
namespace L2
open PySem PySem.Spec PyProof.Rows
theorem xp:∀{vs:List Value} {ns:List Int},IntsAre vs ns→Vals (ns.map V.int) vs
 | _,_,.nil=>.nil
 | _,_,.cons n t h=>.cons ⟨t,rfl⟩ (xp h)
def EZ (H:Hp):Prop:=∀b,H b=none∨∃o xs,H b=some (.mZ o (.lst xs))
theorem y7 {P:Program}{w:World}{K:PySem.W.Frag}{mg mb:Str→Option Value}{CX:jy}{k:Nat}{fa a:Addr}{fd:FuncData}{x:Str}{sp:Sp}{s₁:Shared}{vs:List Value}{ns:List Int}
    (KX:K.In s₁.heap) (hns:s₁.heap.Ns mainGlobals mg) (hb:s₁.heap.Ns builtinsNs mb) (hbb:∀x:Str,x≠"__name__"→mb x=bootBuiltins x) (hlim:s₁.heap.NoLimit) (hg:s₁.gens=#[])
    (ha:s₁.heap.get? a=some { cls:=.type "list",data:=.seq vs.toArray }) (hi:IntsAre vs ns) (hl:ns.length≤sizeLine) (hr:en k callerA)
    (F:∀base:Heap,K.In base→base.Ns mainGlobals mg→bc P w K mg base CX k fa fd [x] sp) (hbind:∀(s:Shared) (u:Value),BindsTo s fd ⟨[u],[]⟩ [(x,u)])
    (hsp:∀H:Hp,EZ H→az K H a (ns.map V.int)→sp [.ref a] H (λv _=>v = .bl true) λ_ _ _=>False)
    (hCX:∀H e s',CX [] H s₁ (λ_ _ _=>False) e s'→False) :
    codeAny (model P w) callerA (.call (.ref fa) ⟨[.ref a],[]⟩) (λr s'=>r = .ok (.ret (.bool true))∧OldK s₁.heap s'.heap∧s'.os=s₁.os∧AllBare s'.gens) s₁:=by
  have rv:=xp hi
  have lenV:=hi.length
  have core:∀H:Hp,EZ H→az K H a (ns.map V.int)→e7 P w H s₁.heap→(∀b,H b≠none→b=a)→(H a≠none→K.lookup a=none) →
      codeAny (model P w) callerA (.call (.ref fa) ⟨[.ref a],[]⟩) (λr s'=>r = .ok (.ret (.bool true))∧OldK s₁.heap s'.heap∧s'.os=s₁.os∧AllBare s'.gens) s₁:=by
    intro H hO hS bb hA hK
    have base_of:∀{b:Addr} {o:Obj},s₁.heap.get? b=some o→H b=none→(pL s₁.heap H).get? b=some o:=λe n=>Fl e n
    have noA:∀{b:Addr} {o:Obj} {es:Array DictEntry} {ep:Nat},s₁.heap.get? b=some o→o.data = .dict es ep→H b=none:=λ{b o es ep} e d=>by
      cases q:H b with
      | none=>rfl
      | some u=>
        have e':b=a:=hA b (by rw [q];simp)
        subst e'
        rw [ha] at e;cases e
        have d':Data.seq vs.toArray _=Data.dict es ep:=d
        cases d'
    have nsK:∀{b:Addr} {m:Str→Option Value},s₁.heap.Ns b m→(pL s₁.heap H).Ns b m:=λ{b m} ⟨o,es,ep,e,d,r⟩=>⟨o,es,ep,base_of e (noA e d),d,r⟩
    have hKb:K.In (pL s₁.heap H):=λb o e=>base_of (KX b o e) (by
      cases q:H b with
      | none=>rfl
      | some u=>
        have e':b=a:=hA b (by rw [q];simp)
        subst e'
        rw [hK (by rw [q];simp)] at e;cases e)
    have hM:Mod K mg (pL s₁.heap H):=⟨hKb,nsK hns,⟨mb,nsK hb,hbb⟩,let ⟨mc,h1,h2⟩:=hlim;⟨mc,nsK h1,h2⟩⟩
    have e0:tY P w K mg (pL s₁.heap H) callerA [] s₁ H:=⟨rfl,hM,λb o e=>Ho e,Nat.le_of_eq (DV _ _),trivial,λb hb=>absurd (show b∈([]:List Addr) from hb) (by simp),bb,.of_eq hg⟩
    refine codeAny_mono ((F _ hKb (nsK hns)).run callerA [] s₁ H ⟨[.ref a],[]⟩ [.ref a] [.ref a] _ _ hr e0 (hbind s₁ (.ref a)) (.cons rfl .nil) (hsp H hO hS)) λr s' h=>?_
    cases r with
    | error e=>exact (hCX H e s' h).elim
    | ok fl=>
      cases fl with
      | next=>exact False.elim h
      | brk=>exact False.elim h
      | cont=>exact False.elim h
      | ret u=>
        obtain⟨v,H',os,bare,un,hok',r',q⟩:=h
        have q':v = .bl true:=q
        subst q'
        obtain rfl:u=Value.bool true:=r'
        refine⟨rfl,OldK.of_keep λb o e=>?_,os,bare⟩
        cases q:H b with
        | none=>exact un.keep b o e q (by intro z;exact absurd (show b∈([]:List Addr) from z) (by simp)) (by simp)
        | some u=>
          rcases hO b with z|⟨ob,xs,z⟩
          · rw [q] at z;cases z
          · have z2:=un.i3 b ob _ z
            obtain⟨e1,_⟩:=bb b _ z
            obtain⟨e2,_⟩:=hok' b _ z2
            rw [e] at e1;cases e1
            exact e2
  cases hk:K.lookup a with
  | some o=>
    have e:=KX a o hk
    rw [ha] at e
    cases e
    refine core (λ_=>none) (λ_=>.inl rfl) (.inr ⟨_,vs.toArray,_,hk,rfl,rfl,rfl,by rw [List.size_toArray,lenV];exact hl,by simpa using rv⟩) (λb u z=>by have z':(none:Option HO)=some u:=z;cases z') (λb z=>absurd rfl z) λz=>absurd rfl z
  | none=>
    refine core (λb=>if b=a then some (.mZ { cls:=.type "list",data:=.seq vs.toArray } (.lst (ns.map V.int))) else none) (λb=>?_) (.inl (.inr ⟨{ cls:=.type "list",data:=.seq vs.toArray },if_pos rfl⟩)) (λb u z=>?_) (λb z=>?_) λ_=>hk
    · by_cases hb:b=a
      · exact .inr ⟨_,_,if_pos hb⟩
      · exact .inl (if_neg hb)
    · by_cases hb:b=a
      · have z':=(if_pos hb).symm.trans z
        cases z'
        subst hb
        exact⟨ha,by rw [List.length_map];exact hl,vs,_,rv,ha⟩
      · have z':=(if_neg hb).symm.trans z
        cases z'
    · by_cases hb:b=a
      · exact hb
      · exact absurd (if_neg hb) z
noncomputable abbrev K3 {K:PySem.W.Frag} {h:Heap} (_:K.In h):PySem.W.Frag:=K
theorem KP {l:PySem.W.OpenLaw}{n k:Nat}{q:Program}{loose:List Str}{XP:(Str→Option Value)→Heap→Prop}{YP:World→Heap→Prop}{d:DefRec}{K:Params→PySem.W.Frag}{CX:World→jy}{sp:World→Sp}{x:Str}
    (hn:l.most=some n) (hn2:n≤sizeLine) (hdf:d.params.defaults=[]) (hr:en k callerA)
    (hY:∀(w:World) (h:Heap),YP w h→(K w.params).In h)
    (F:∀(w:World) (mg:Str→Option Value) (fa:Addr) (h:Heap),(K w.params).In h→h.Ns mainGlobals mg→mg d.name=some (.ref fa) →
      ∃fd:FuncData,(∀(s:Shared) (u:Value),BindsTo s fd ⟨[u],[]⟩ [(x,u)]) ∧
        ∀base:Heap,(K w.params).In base→base.Ns mainGlobals mg→bc l.prog w (K w.params) mg base (CX w) k fa fd [x] (sp w))
    (hsp:∀(w:World) (H:Hp) (a:Addr) (ns:List Int),ns.length≤n→EZ H→az (K w.params) H a (ns.map V.int)→sp w [.ref a] H (λv _=>v = .bl true) λ_ _ _=>False)
    (hCX:∀(w:World) (H:Hp) (s:Shared) (e:Value) (s':Shared),CX w [] H s (λ_ _ _=>False) e s'→False) :
    PySem.W.WalkO q loose XP YP l.row.toRowW d [] (λf vs=>PySem.call f vs):=by
  refine Att.AO hn hdf λw s₀ s₁ mg mb fa o pm cd doc a vs ns G Y ho hd hcd hmg hobj hints hlen hg=>?_
  have KX:=hY w _ Y
  obtain⟨fd,hb,hF⟩:=F w mg fa _ KX G.T.g hmg
  exact y7 KX G.T.g G.T.b G.T.builtins G.T.nolimit hg hobj hints (Nat.le_trans hlen hn2) hr hF hb (λH hO hS=>hsp w H a ns hlen hO hS) λH e s'=>hCX w H s₁ e s'
noncomputable def aH (s:Stmt):Arguments:=match s with
 | .FunctionDef _ a _ _ _ _ _ _ _ _=>a
 | _=>{ posonlyargs:=[],args:=[],vararg:=none,kwonlyargs:=[],kw_defaults:=[],kwarg:=none,defaults:=[] }
noncomputable def aE (s:Stmt):List Stmt:=match s with
 | .FunctionDef _ _ b _ _ _ _ _ _ _=>b
 | _=>[]
noncomputable def aj (s:Stmt):Scope:=match s with
 | .FunctionDef _ _ _ _ _ _ sc _ _ _=>sc
 | _=>{ kind:=.function,names:=[],isGenerator:=false,isCoroutine:=false }
noncomputable abbrev cY:jy:=λ_ _ _ _ _ _=>False
abbrev E0:XK:=λ_ _ _=>False
theorem vo {X:Cx}:Passes cY X E0:=λ_ _ _ _ _ _ _ h=>h.elim
structure cD (K:PySem.W.Frag)(x qual:Str)(st:Stmt)(f:Addr)(fd:FuncData):Prop where
 ex:∃(oc:Value) (od:Option Addr) (kV doc pm:Value) (an:Option Addr) (cdv ct:Value) (osl:Array (Option Value)),
  fd=PySem.W.fnOf x qual (aH st) (aE st) (aj st) .none kV doc pm an cdv ct∧K.lookup f=some ⟨oc,od,.func fd,osl⟩∧PySem.W.codeIn K cdv qual=true
 kp:PySem.W.keepIn K (.ref f)=true
section
variable {P:Program}{w:World}{K:PySem.W.Frag}{mg:Str→Option Value}{base:Heap}
theorem cD.ok {x qual:Str}{st:Stmt}{f:Addr}{fd:FuncData}{N ps:List Str}{k:Nat}{sp:Sp}(F:cD K x qual st f fd)(S:aK N ps (aj st))(len:∀vs H Q E,sp vs H Q E→vs.length=ps.length)
    (hbody:∀(cdv:Value) (A:Around) (outer:List Env) (s:Shared) (H:Hp) (vs:List V) (Q:VK) (E:XK),en k (A.deeper (envOfC qual (aj st) s.heap.objs.size f cdv))→sp vs H Q E →
      ∃t,mi (oj cY P w K mg base N qual (aj st) f cdv A outer s H E).D8 (aE st) t∧t { nx:=λ_ H'=>Q .cU H',rt:=Q } (start N vs) H):bc P w K mg base cY (k+1) f fd ps sp:=by
  obtain⟨oc,od,kV,doc,pm,an,cdv,ct,osl,rfl,lk,hcd⟩:=F.ex
  refine Gs lk hcd S len λA outer s H vs Q E hr hsp=>?_
  obtain⟨t,h,q⟩:=hbody cdv A outer s H vs Q E hr hsp
  exact⟨t,h.D8,q⟩
theorem cD.binds {x qual:Str}{st:Stmt}{f:Addr}{fd:FuncData}{ps:List Str}(F:cD K x qual st f fd)
    (h:∀(kV doc pm:Value) (an:Option Addr) (cdv ct:Value) (us:List Value),us.length=ps.length→bindArgs (PySem.W.fnOf x qual (aH st) (aE st) (aj st) .none kV doc pm an cdv ct) ⟨us,[]⟩=pure (ps.zip us)):Binds K fd ps []:=by
  obtain⟨oc,od,kV,doc,pm,an,cdv,ct,osl,rfl,lk,hcd⟩:=F.ex
  exact .all (h kV doc pm an cdv ct)
theorem aW {x qual:Str}{st:Stmt}{f:Addr}{oc:Value}{od an:Option Addr}{osl:Array (Option Value)}{kV doc pm cdv ct:Value}(l:K.lookup f=some ⟨oc,od,.func (PySem.W.fnOf x qual (aH st) (aE st) (aj st) .none kV doc pm an cdv ct),osl⟩)
    (c:PySem.W.codeIn K cdv qual=true) (k:PySem.W.keepIn K (.ref f)=true):cD K x qual st f (PySem.W.fnOf x qual (aH st) (aE st) (aj st) .none kV doc pm an cdv ct):=⟨⟨oc,od,kV,doc,pm,an,cdv,ct,osl,rfl,l,c⟩,k⟩
end
section
variable {X:Cx}
theorem pv (i:Nat){x:Str}{pos:Pos}(hN:X.N[i]?=some x:=by rfl)(hv:Gn X.env.scope x:=by first | exact Or.inl rfl | exact Or.inr (Or.inl rfl) | exact Or.inr (Or.inr rfl))(hd:(x == ("__debug__":Str))=false:=by decide)
    (hcd:(x == ("__classdict__":Str))=false:=by decide):PE X (.Name x pos) (jD i):=Jp hN hv hd hcd
end
theorem cG {c A B:Prop}[Decidable c](h1:c→A)(h2:¬c→B):if c then A else B:=by
 by_cases h:c
 ·rw [if_pos h]
  exact h1 h
 ·rw [if_neg h]
  exact h2 h
def aL (H H':Hp):Prop:=∀b o,H b=some o→H' b=some o
theorem aL.refl (H:Hp):aL H H:=λ_ _ h=>h
theorem aL.trans {H H1 H2:Hp}(a:aL H H1)(b:aL H1 H2):aL H H2:=λc o h=>b c o (a c o h)
theorem aL.free {H H':Hp}(e:aL H H'){l:Addr}(h:H' l=Option.none):H l=Option.none:=by
 cases q:H l with
 | none=>rfl
 | some o=>
  rw [e l o q] at h
  cases h
theorem aL.seq {K:PySem.W.Frag}{H H':Hp}{a:Addr}{xs:List V}(e:aL H H')(h:az K H a xs):az K H' a xs:=by
 rcases h with (h|⟨o,h⟩)|h
 ·exact .inl (.inl (e _ _ h))
 ·exact .inl (.inr ⟨o,e _ _ h⟩)
 ·exact .inr h
open PySem PySem.Spec PyProof.Rows
section
variable {κ:Type}[DecidableEq κ]
end
end L2
set_option autoImplicit false
namespace Dr
theorem pow_pos {p:Int}(h:2≤p):∀n:Nat,0<p^n
 | 0=>by simp
 | n+1=>by
  rw [Int.pow_succ]
  exact Int.mul_pos (pow_pos h n) (by omega)
theorem pow_add' (p:Int)(m:Nat):∀n:Nat,p^(m+n)=p^m*p^n
 | 0=>by simp
 | n+1=>by rw [←Nat.add_assoc,Int.pow_succ,pow_add' p m n,Int.pow_succ,Int.mul_assoc]
structure hV (p x:Int)(d:Nat)(u:Int):Prop where
 eq:x=u*p^d
 un:u%p≠0
theorem hV.ne {p x u:Int}{d:Nat}(hp:2≤p)(f:hV p x d u):x≠0:=by
 intro z
 have h:=f.eq
 rw [z] at h
 have h2:=pow_pos hp d
 rcases Int.mul_eq_zero.mp h.symm with q|q
 ·exact f.un (by rw [q];simp)
 ·omega
theorem DR {p:Int}(hp:2≤p):∀(n:Nat) (x:Int),x.natAbs≤n→x≠0→∃d u,hV p x d u
 | 0,x,h,h0=>by omega
 | n+1,x,h,h0=>by
  by_cases c:x%p=0
  ·have e:x=p*(x/p):=by have:=Int.mul_ediv_add_emod x p;omega
   have q0:x/p≠0:=by intro z;rw [z] at e;simp at e;exact h0 e
   have q1:(x/p).natAbs≤n:=by
    have e2:x.natAbs=p.natAbs*(x/p).natAbs:=by rw [←Int.natAbs_mul,←e]
    have p2:2≤p.natAbs:=by omega
    have l:2*(x/p).natAbs≤p.natAbs*(x/p).natAbs:=Nat.mul_le_mul_right _ p2
    have l0:(x/p).natAbs≠0:=by omega
    omega
   obtain⟨d,u,f⟩:=DR hp n (x/p) q1 q0
   refine⟨d+1,u,?_,f.un⟩
   have e3:=f.eq
   calc x=p*(x/p):=e
    _=p*(u*p^d):=by rw [←e3]
    _=u*p^(d+1):=by rw [Int.pow_succ,Int.mul_comm p,Int.mul_assoc]
  ·exact⟨0,x,by simp,c⟩
theorem jY {p x:Int}(hp:2≤p)(h:x≠0):∃d u,hV p x d u:=DR hp _ x (Nat.le_refl _) h
theorem u5 {p u v:Int}{d e:Nat}(hp:2≤p)(h:u*p^d=v*p^e)(hu:u%p≠0):e≤d:=by
 refine Nat.le_of_not_lt λc=>?_
 obtain⟨k,rfl⟩:∃k,e=d+(k+1):=⟨e-d-1,by omega⟩
 have h0:=pow_pos hp d
 have e1:u=v*p^(k+1):=by
  refine Int.eq_of_mul_eq_mul_right (Int.ne_of_gt h0) ?_
  rw [h,pow_add',Int.mul_assoc,Int.mul_comm (p^d)]
 rw [e1,Int.pow_succ,←Int.mul_assoc,Int.mul_emod_left] at hu
 exact hu rfl
theorem hV.uniq {p x u v:Int}{d e:Nat}(hp:2≤p)(f:hV p x d u)(g:hV p x e v):d=e∧u=v:=by
 have h:u*p^d=v*p^e:=by rw [←f.eq,g.eq]
 have a:=u5 hp h f.un
 have b:=u5 hp h.symm g.un
 have c:d=e:=Nat.le_antisymm b a
 subst c
 exact⟨rfl,Int.eq_of_mul_eq_mul_right (Int.ne_of_gt (pow_pos hp d)) h⟩
theorem hV.dvd {p x u:Int}{d:Nat}(hp:2≤p)(f:hV p x d u)(k:Nat):x%p^k=0↔k≤d:=by
 constructor
 ·intro h
  have e:x=x/p^k*p^k:=by have:=Int.mul_ediv_add_emod x (p^k);rw [Int.mul_comm];omega
  exact u5 hp (f.eq.symm.trans e) f.un
 ·intro h
  obtain⟨j,rfl⟩:∃j,d=j+k:=⟨d-k,by omega⟩
  rw [f.eq,pow_add',←Int.mul_assoc,Int.mul_emod_left]
theorem eF {p x:Int}{j k:Nat}(h:x%p^k=0)(hj:j≤k):x%p^j=0:=by
 obtain⟨i,rfl⟩:∃i,k=j+i:=⟨k-j,by omega⟩
 rw [pow_add'] at h
 exact Int.emod_eq_zero_of_dvd (Int.dvd_trans (Int.dvd_mul_right _ _) (Int.dvd_of_emod_eq_zero h))
noncomputable def cm:List Int:=[2,3,5,7,11,13,17,19,23,29,31,37,41,43,47,53,59,61,67,71,73,79,83,89,97]
theorem cy {p:Int}(h:p∈cm):2≤p∧p≤97:=
 of_decide_eq_true (List.all_eq_true.mp (show (cm.all λq=>decide (2≤q∧q≤97))=true by decide +kernel) p h)
noncomputable def KA (p:Nat):Bool:=(List.range p).all λr=>r == 0 || (List.range p).any λy=>r*y%p == 1
theorem Fo:(cm.map Int.toNat).all KA=true:=by decide +kernel
theorem DW {p x:Int}(hp:p∈cm)(hx:x%p≠0):∃y:Int,1≤y∧y<p∧x*y%p=1:=by
 have g:=cy hp
 have h:=List.all_eq_true.mp Fo p.toNat (List.mem_map.mpr ⟨p,hp,rfl⟩)
 have r0:=Int.emod_nonneg x (show p≠0 by omega)
 have r1:=Int.emod_lt_of_pos x (show 0<p by omega)
 have h2:=List.all_eq_true.mp h (x%p).toNat (List.mem_range.mpr (by omega))
 have z:((x%p).toNat == 0)=false:=by
  rw [beq_eq_false_iff_ne];omega
 rw [z,Bool.false_or] at h2
 obtain⟨y,hy,e⟩:=List.any_eq_true.mp h2
 have e':(x%p).toNat*y%p.toNat=1:=by simpa using e
 have hy':=List.mem_range.mp hy
 refine⟨(y:Int),?_,by omega,?_⟩
 ·rcases Nat.eq_zero_or_pos y with q|q
  ·subst q;simp at e'
  ·omega
 ·rw [Int.mul_emod,Int.emod_eq_of_lt (Int.natCast_nonneg y) (show (y:Int)<p by omega)]
  have e3:=congrArg (λn:Nat=>(n:Int)) e'
  simp only [Int.natCast_emod,Int.natCast_mul] at e3
  rw [Int.toNat_of_nonneg r0,Int.toNat_of_nonneg (by omega)] at e3
  exact e3
theorem euclid {p a b:Int}(hp:p∈cm)(h:a*b%p=0)(ha:a%p≠0):b%p=0:=by
 obtain⟨y,_,_,e⟩:=DW hp ha
 have g:=cy hp
 have h1:(y*(a*b))%p=0:=by rw [Int.mul_emod,h];simp
 have h2:(y*(a*b))%p=(a*y)*b%p:=by
  congr 1
  rw [←Int.mul_assoc,Int.mul_comm y a]
 rw [h2,Int.mul_emod,e,Int.one_mul,Int.emod_emod] at h1
 exact h1
theorem hV.mul {p x y u v:Int}{d e:Nat}(hp:p∈cm)(f:hV p x d u)(g:hV p y e v):hV p (x*y) (d+e) (u*v):=by
 refine⟨?_,λh=>g.un (euclid hp h f.un)⟩
 rw [f.eq,g.eq,pow_add']
 simp only [Int.mul_assoc,Int.mul_left_comm]
theorem vp {p:Int}{m n:Nat}(h:m≤n):p^n%p^m=0:=by
 obtain⟨k,rfl⟩:∃k,n=k+m:=⟨n-m,by omega⟩
 rw [pow_add',Int.mul_emod_left]
structure Ci (p x y:Int)(e:Nat):Prop where
 lo:0≤y
 hi:y<p^e
 one:(x*y-1)%p^e=0
theorem dj {m a b:Int}(h:a%m=0)(h':b%m=0):(a-b)%m=0:=by rw [Int.sub_emod,h,h'];simp
theorem cM {m a b:Int}(h:a%m=0)(h':b%m=0):(a+b)%m=0:=by rw [Int.add_emod,h,h'];simp
theorem eE {m a:Int}(b:Int)(h:a%m=0):(b*a)%m=0:=by rw [Int.mul_emod,h];simp
theorem rd {m a:Int}(b:Int)(h:a%m=0):(a*b)%m=0:=by rw [Int.mul_emod,h];simp
theorem Hq {m a b:Int}(h:(a-b)%m=0):a%m=b%m:=Int.emod_eq_emod_iff_emod_sub_eq_zero.mpr h
theorem i8 (m a:Int):(a%m-a)%m=0:=by
 rw [Int.sub_emod,Int.emod_emod]
 simp
theorem Fn {p x y:Int}{e r:Nat}(h:(x*y-1)%p^(min r e)=0):(x*(y*(2-x*y)%p^e)-1)%p^(min (r*2) e)=0:=by
 have k1:(y*(2-x*y)%p^e-y*(2-x*y))%p^e=0:=i8 _ _
 have k2:(x*(y*(2-x*y)%p^e)-x*(y*(2-x*y)))%p^(min (r*2) e)=0:=by
  rw [←Int.mul_sub]
  exact eE _ (eF k1 (Nat.min_le_right ..))
 have k3:x*(y*(2-x*y))-1 = -((x*y-1)*(x*y-1)):=by
  have e1:x*(y*(2-x*y))=2*(x*y)-(x*y)*(x*y):=by
   rw [←Int.mul_assoc,Int.mul_sub,Int.mul_comm (x*y) 2]
  have e2:(x*y-1)*(x*y-1)=(x*y)*(x*y)-2*(x*y)+1:=by
   rw [Int.sub_mul,Int.mul_sub]
   omega
  rw [e1,e2]
  omega
 have k4:(x*(y*(2-x*y))-1)%p^(min (r*2) e)=0:=by
  rw [k3]
  refine Int.emod_eq_zero_of_dvd (Int.dvd_neg.mpr ?_)
  obtain⟨q,hq⟩:=Int.dvd_of_emod_eq_zero h
  have:p^(min r e)*p^(min r e)∣(x*y-1)*(x*y-1):=by
   refine⟨q*q,?_⟩
   conv=>lhs;rw [hq]
   simp only [Int.mul_assoc,Int.mul_left_comm]
  refine Int.dvd_trans ?_ this
  rw [←pow_add']
  exact Int.dvd_of_emod_eq_zero (vp (by omega))
 have:x*(y*(2-x*y)%p^e)-1=(x*(y*(2-x*y)%p^e)-x*(y*(2-x*y)))+(x*(y*(2-x*y))-1):=by omega
 rw [this]
 exact cM k2 k4
theorem Ci.zero (p x:Int):Ci p x 0 0:=⟨by decide,by simp,by simp [Int.emod_one]⟩
def Ih (n:Int):Prop:=2≤n∧∀d:Int,2≤d→d*d≤n→n%d≠0
theorem hV.Es {p x u:Int}{d:Nat}(hp:2≤p)(f:hV p x d u):(p^d).natAbs≤x.natAbs:=by
 have hu:u≠0:=λz=>f.un (by rw [z];simp)
 have:x.natAbs=u.natAbs*(p^d).natAbs:=by rw [f.eq,Int.natAbs_mul]
 have h1:1*(p^d).natAbs≤u.natAbs*(p^d).natAbs:=Nat.mul_le_mul_right _ (by omega)
 omega
theorem pZ {p:Int}(hp:2≤p):∀d:Nat,2^d≤(p^d).natAbs
 | 0=>by simp
 | d+1=>by
  rw [Int.pow_succ,Int.natAbs_mul,Nat.pow_succ]
  exact Nat.mul_le_mul (pZ hp d) (by omega)
theorem hV.yG {p x u:Int}{d n:Nat}(hp:2≤p)(f:hV p x d u)(h:x.natAbs<2^n):d<n:=
 (Nat.pow_lt_pow_iff_right (by decide:1<2)).mp (Nat.lt_of_le_of_lt (Nat.le_trans (pZ hp d) (f.Es hp)) h)
theorem hV.div {p x u:Int}{d:Nat}(hp:2≤p)(f:hV p x d u):x/p^d=u:=by
 have h0:=pow_pos hp d
 conv=>lhs;rw [f.eq]
 exact Int.mul_ediv_cancel _ (by omega)
noncomputable def aA:List Int→Int→Int
 | [],_=>0
 | a::f,x=>a+x*aA f x
noncomputable def d6:List Int→Int→Int
 | [],_=>0
 | _::f,x=>aA f x+x*d6 f x
noncomputable def dm:Int→List Int→List Int
 | _,[]=>[]
 | k,a::f=>k*a::dm (k+1) f
noncomputable def d7:List Int→List Int
 | []=>[]
 | [_]=>[0]
 | _::f=>dm 1 f
theorem Ej (x:Int):∀(f:List Int) (k:Int),aA (dm k f) x=k*aA f x+x*d6 f x
 | [],k=>by simp [aA,dm,d6]
 | a::f,k=>by
  simp only [aA,dm,d6,Ej x f (k+1)]
  grind
theorem j3 {f:List Int}(h:0<f.length)(x:Int):aA (d7 f) x=d6 f x:=by
 match f,h with
 | [a],_=>simp [d7,aA,d6]
 | a::b::f,_=>
  show aA (dm 1 (b::f)) x=d6 (a::b::f) x
  rw [Ej]
  simp only [d6]
  grind
theorem nT:∀(f:List Int) (k:Int),(dm k f).length=f.length
 | [],_=>rfl
 | _::f,k=>by simp [dm,nT f (k+1)]
theorem yI:∀(f:List Int) (k:Int) (i:Nat) (c:Int),f[i]?=some c→(dm k f)[i]?=some ((k+i)*c)
 | a::f,k,0,c,h=>by
  have:a=c:=by simpa using h
  subst this
  simp [dm]
 | a::f,k,i+1,c,h=>by
  have:=yI f (k+1) i c (by simpa using h)
  simp only [dm,List.getElem?_cons_succ,this]
  congr 2
  omega
theorem CS (f g:List Int)(x:Int):aA (f++g) x=aA f x+x^f.length*aA g x:=by
 induction f with
 | nil=>simp [aA]
 | cons a f ih=>
  simp only [List.cons_append,aA,ih,List.length_cons]
  grind
theorem nW (n:Nat)(x:Int):aA (List.replicate n 0) x=0:=by
 induction n with
 | zero=>rfl
 | succ n ih=>simp [List.replicate_succ,aA,ih]
theorem sG (x d:Int):∀(f:List Int) (k:Nat) (c:Int),f[k]?=some c→aA (f.set k (c+d)) x=aA f x+d*x^k
 | a::f,0,c,h=>by
  have:a=c:=by simpa using h
  subst this
  simp only [List.set_cons_zero,aA,Int.pow_zero]
  omega
 | a::f,k+1,c,h=>by
  simp only [List.set_cons_succ,aA,sG x d f k c (by simpa using h)]
  grind
theorem jR {f:List Int}{i:Nat}{c:Int}(h:f[i]?=some c)(x:Int):aA (f.take (i+1)) x=aA (f.take i) x+c*x^i:=by
 have hi:=(List.getElem?_eq_some_iff.mp h).1
 rw [List.take_add_one,h,CS,List.length_take,Nat.min_eq_left (Nat.le_of_lt hi)]
 simp only [Option.toList,aA]
 grind
theorem Fd {f:List Int}{i:Nat}{c:Int}(h:f.reverse[i]?=some c):f.drop (f.length-(i+1))=c::f.drop (f.length-i):=by
 have hi:i<f.length:=by
  have:=(List.getElem?_eq_some_iff.mp h).1
  simpa using this
 rw [List.getElem?_reverse hi] at h
 have h2:f.length-(i+1)<f.length:=by omega
 rw [List.drop_eq_getElem_cons h2]
 have e1:f.length-(i+1)+1=f.length-i:=by omega
 have e2:f[f.length-(i+1)]=c:=by
  have h3:f.length-1-i=f.length-(i+1):=by omega
  rw [h3,List.getElem?_eq_getElem h2] at h
  exact Option.some.inj h
 rw [e1,e2]
theorem HA {f:List Int}{i:Nat}{c:Int}(h:f.reverse[i]?=some c)(x:Int):aA (f.drop (f.length-(i+1))) x=aA (f.drop (f.length-i)) x*x+c:=by
 rw [Fd h]
 simp only [aA]
 grind
def Sm (n:Int)(k:Nat):Prop:=n.natAbs<2^k
theorem Sm.mono {n:Int}{k l:Nat}(h:Sm n k)(hl:k≤l):Sm n l:=Nat.lt_of_lt_of_le h (Nat.pow_le_pow_right (by decide) hl)
theorem Sm.zero (k:Nat):Sm 0 k:=Nat.pow_pos (by decide)
theorem Sm.add {a b:Int}{k l:Nat}(ha:Sm a k)(hb:Sm b l):Sm (a+b) (max k l+1):=by
 have h1:=ha.mono (Nat.le_max_left k l)
 have h2:=hb.mono (Nat.le_max_right k l)
 unfold Sm at *
 rw [Nat.pow_succ]
 omega
theorem Sm.mul {a b:Int}{k l:Nat}(ha:Sm a k)(hb:Sm b l):Sm (a*b) (k+l):=by
 unfold Sm at *
 rw [Int.natAbs_mul,Nat.pow_add]
 exact Nat.mul_lt_mul_of_lt_of_lt ha hb
def bX (f:List Int)(m:Nat):Prop:=∀c,c∈f→Sm c m
theorem Sm.aA {m n:Nat}{x:Int}(hx:Sm x n):∀{f:List Int},bX f m→Sm (aA f x) (m+f.length*(n+1))
 | [],_=>Sm.zero _
 | a::f,hf=>by
  have h1:=Sm.aA hx (f:=f) λc hc=>hf c (List.mem_cons_of_mem _ hc)
  have h2:=(hf a (List.mem_cons_self ..)).add (hx.mul h1)
  refine h2.mono ?_
  rw [List.length_cons,Nat.succ_mul]
  omega
theorem bX.drop {f:List Int}{m:Nat}(h:bX f m)(k:Nat):bX (f.drop k) m:=λc hc=>h c (List.mem_of_mem_drop hc)
theorem nv:∀(f g:List Int) (N:Int),f.length=g.length→(∀x,N≤x→aA f x=aA g x)→f=g
 | [],[],_,_,_=>rfl
 | a::f,b::g,N,hl,h=>by
  have hab:a=b:=by
   let D:Int:=((a-b).natAbs:Int)+1+(N.natAbs:Int)
   have hD:N≤D:=by omega
   have e:=h D hD
   simp only [aA] at e
   have e2:a-b=D*(aA g D-aA f D):=by grind
   refine Decidable.byContradiction λhne=>?_
   have hz:aA g D-aA f D≠0:=λz=>by
    rw [z] at e2
    simp at e2
    omega
   have h3:(a-b).natAbs=D.natAbs*(aA g D-aA f D).natAbs:=by rw [←Int.natAbs_mul,←e2]
   have h4:D.natAbs*1≤D.natAbs*(aA g D-aA f D).natAbs:=Nat.mul_le_mul_left _ (by omega)
   omega
  subst hab
  congr 1
  refine nv f g (max N 1) (by simpa using hl) λx hx=>?_
  have e:=h x (by omega)
  simp only [aA] at e
  have e2:x*aA f x=x*aA g x:=by omega
  exact Int.eq_of_mul_eq_mul_left (by omega) e2
 | [],_::_,_,hl,_=>by simp at hl
 | _::_,[],_,hl,_=>by simp at hl
theorem mI {f g:List Int}(hl:f.length=g.length)(h:∀x,aA f x=aA g x):f=g:=nv f g 0 hl λx _=>h x
theorem vG (x h:Int):∀f:List Int,∃R,aA f (x+h)=aA f x+h*d6 f x+h*h*R
 | []=>⟨0,by simp [aA,d6]⟩
 | a::f=>by
  obtain⟨R,e⟩:=vG x h f
  refine⟨d6 f x+x*R+h*R,?_⟩
  simp only [aA,d6,e]
  grind
def j9 (f:List Int)(d:Int):Prop:=(d = -1∧∀c,c∈f→c=0)∨∃(k:Nat) (c:Int),d=(k:Int)∧f[k]?=some c∧c≠0∧∀(j:Nat) (b:Int),k<j→f[j]?=some b→b=0
theorem j9.nil:j9 [] (-1):=.inl ⟨rfl,λ_ h=>nomatch h⟩
theorem j9.snoc {f:List Int}{d x:Int}(h:j9 f d):j9 (f++[x]) (if x≠0 then (f.length:Int) else d):=by
 by_cases hx:x=0
 ·rw [if_neg (by simp [hx])]
  rcases h with⟨rfl,h⟩|⟨k,c,rfl,e,hc,h⟩
  ·exact .inl ⟨rfl,λc hc=>by rcases List.mem_append.mp hc with z | z;exact h c z;rw [List.mem_singleton.mp z,hx]⟩
  ·have hk:=(List.getElem?_eq_some_iff.mp e).1
   refine .inr ⟨k,c,rfl,by rw [List.getElem?_append_left hk];exact e,hc,λj b hj e'=>?_⟩
   by_cases hl:j<f.length
   ·rw [List.getElem?_append_left hl] at e'
    exact h j b hj e'
   ·rw [List.getElem?_append_right (by omega)] at e'
    by_cases hz:j-f.length=0
    ·rw [hz] at e'
     simp at e'
     rw [←e',hx]
    ·rw [List.getElem?_eq_none (by simp;omega)] at e'
     cases e'
 ·rw [if_pos hx]
  refine .inr ⟨f.length,x,rfl,by rw [List.getElem?_append_right (Nat.le_refl _)];simp,hx,λj b hj e'=>?_⟩
  rw [List.getElem?_eq_none (by simp;omega)] at e'
  cases e'
theorem j9.take_succ {f:List Int}{i:Nat}{x d:Int}(hx:f[i]?=some x)(h:j9 (f.take i) d):j9 (f.take (i+1)) (if x≠0 then (i:Int) else d):=by
 have hi:=(List.getElem?_eq_some_iff.mp hx).1
 have:=h.snoc (x:=x)
 rw [List.length_take,Nat.min_eq_left (Nat.le_of_lt hi)] at this
 rw [List.take_add_one,hx]
 exact this
structure yi (f g r:List Int):Prop where
 len:r.length+1=f.length+g.length
 ev:∀x,aA r x=aA f x*aA g x
noncomputable def fu:List Int→List Int→List Int
 | [],g=>g
 | f,[]=>f
 | a::f,b::g=>(a+b)::fu f g
theorem oT (x:Int):∀f g:List Int,aA (fu f g) x=aA f x+aA g x
 | [],g=>by simp [fu,aA]
 | a::f,[]=>by simp [fu,aA]
 | a::f,b::g=>by
  simp only [fu,aA,oT x f g]
  grind
theorem nj:∀f g:List Int,(fu f g).length=max f.length g.length
 | [],g=>by simp [fu]
 | a::f,[]=>by simp [fu]
 | a::f,b::g=>by
  simp only [fu,List.length_cons,nj f g]
  omega
theorem sF (k x:Int):∀f:List Int,aA (f.map (k*·)) x=k*aA f x
 | []=>by simp [aA]
 | a::f=>by
  simp only [List.map_cons,aA,sF k x f]
  grind
noncomputable def KI:List Int→List Int→List Int
 | [],_=>[]
 | a::f,g=>fu (g.map (a*·)) (match f with | []=>[] | _=>0::KI f g)
structure dz (p:Int)(f:List Int)(c:Nat):Prop where
 all:∀x,x∈f→x%p^c=0
 one:∃x,x∈f∧x/p^c%p≠0
theorem dz.le {p:Int}{f:List Int}{c c':Nat}(hp:2≤p)(h:dz p f c)(h':∀x,x∈f→x%p^c'=0):c'≤c:=by
 refine Decidable.byContradiction λhlt=>?_
 obtain⟨x,hx,n⟩:=h.one
 have h1:x%p^(c+1)=0:=eF (h' x hx) (by omega)
 obtain⟨y,e⟩:=Int.dvd_of_emod_eq_zero h1
 apply n
 have hp0:=pow_pos hp c
 rw [e,Int.pow_succ,Int.mul_assoc,Int.mul_ediv_cancel_left _ (by omega)]
 simp
theorem dz.uniq {p:Int}{f:List Int}{c c':Nat}(hp:2≤p)(h:dz p f c)(h':dz p f c'):c=c':=by
 have h1:=h.le hp h'.all
 have h2:=h'.le hp h.all
 omega
noncomputable def dJ (q:Int)(f:List Int):List Int:=f.map (·/q)
theorem rJ {q:Int}:∀{f:List Int},(∀x,x∈f→x%q=0)→f=(dJ q f).map (q*·)
 | [],_=>rfl
 | a::l,hl=>by
  have ih:=rJ (f:=l) λx hx=>hl x (List.mem_cons_of_mem _ hx)
  unfold dJ at ih ⊢
  rw [List.map_cons,List.map_cons,←ih]
  congr 1
  have e:=Int.mul_ediv_add_emod a q
  rw [hl a (List.mem_cons_self ..)] at e
  omega
theorem Hu {q:Int}{f:List Int}(h:∀x,x∈f→x%q=0)(x:Int):aA f x=q*aA (dJ q f) x:=by
 conv=>lhs;rw [rJ h]
 rw [sF]
theorem kY (q:Int)(f:List Int):(dJ q f).length=f.length:=by simp [dJ]
structure fU (f:List Int)(a q:Int)(s:List Int):Prop where
 len:s.length=f.length
 ev:∀y,aA s y=aA f (a+q*y)
theorem fU.uniq {f s s':List Int}{a q:Int}(h:fU f a q s)(h':fU f a q s'):s=s':=mI (h.len.trans h'.len.symm) λx=>by rw [h.ev,h'.ev]
theorem jg {f:List Int}(h:0<f.length):(d7 f).length=max 1 (f.length-1):=by
 match f,h with
 | [a],_=>rfl
 | a::b::f,_=>
  show (dm 1 (b::f)).length=_
  rw [nT]
  simp only [List.length_cons]
  omega
theorem v9 (x y:Int):∀f:List Int,∃R,aA f x-aA f y=(x-y)*R
 | []=>⟨0,by simp [aA]⟩
 | a::f=>by
  obtain⟨R,e⟩:=v9 x y f
  refine⟨aA f x+y*R,?_⟩
  simp only [aA]
  grind
theorem BR (x y:Int):∀f:List Int,∃R,d6 f x-d6 f y=(x-y)*R
 | []=>⟨0,by simp [d6]⟩
 | a::f=>by
  obtain⟨R,e⟩:=BR x y f
  obtain⟨S,e'⟩:=v9 x y f
  refine⟨S+d6 f x+y*R,?_⟩
  simp only [d6]
  grind
theorem uq {x y m:Int}(f:List Int)(h:(x-y)%m=0):(aA f x-aA f y)%m=0:=by
 obtain⟨R,e⟩:=v9 x y f
 rw [e]
 exact rd R h
theorem zB {x y m:Int}(f:List Int)(h:(x-y)%m=0):(d6 f x-d6 f y)%m=0:=by
 obtain⟨R,e⟩:=BR x y f
 rw [e]
 exact rd R h
structure da (p:Int)(f:List Int)(a:Int)(d:Nat)(u:Int):Prop where
 jY:hV p (d6 f a) d u
 deep:aA f a%p^(2*d+1)=0
theorem zG (f:List Int)(a k q:Int):∃R,aA f (a+k*q)=aA f a+k*q*d6 f a+q*q*R:=by
 obtain⟨R,e⟩:=vG a (k*q) f
 exact⟨k*k*R,by grind⟩
theorem hV.near {p x y u:Int}{d:Nat}(hp:2≤p)(h:hV p x d u)(hxy:(y-x)%p^(d+1)=0):∃v,hV p y d v∧(v-u)%p=0:=by
 obtain⟨k,e⟩:=Int.dvd_of_emod_eq_zero hxy
 have e1:y=(u+p*k)*p^d:=by
  have:=h.1
  rw [Int.pow_succ] at e
  generalize p^d=B at *
  grind
 refine⟨u+p*k,⟨e1,?_⟩,?_⟩
 ·have:=h.2
  intro z
  apply this
  rw [Int.add_mul_emod_self_left] at z
  exact z
 ·rw [show u+p*k-u=p*k by omega]
  simp
theorem da.near {p:Int}{f:List Int}{a b u:Int}{d:Nat}(hp:2≤p)(h:da p f a d u)(hab:(b-a)%p^(d+1)=0):∃v,da p f b d v∧(v-u)%p=0:=by
 obtain⟨v,hv,e⟩:=h.jY.near hp (zB f hab)
 refine⟨v,⟨hv,?_⟩,e⟩
 obtain⟨k,ek⟩:=Int.dvd_of_emod_eq_zero hab
 obtain⟨R,eR⟩:=zG f a k (p^(d+1))
 have hb:b=a+k*p^(d+1):=by rw [Int.mul_comm];omega
 rw [hb,eR]
 have h1:=h.jY.1
 have e0:p^(2*d+1)=p^(d+1)*p^d:=by rw [←pow_add'];congr 1;omega
 have e1:p^(d+1)=p^d*p:=Int.pow_succ ..
 have h2:k*p^(d+1)*d6 f a=p^(2*d+1)*(k*u):=by
  rw [h1,e0]
  generalize p^(d+1)=A
  generalize p^d=B
  grind
 have h3:p^(d+1)*p^(d+1)*R=p^(2*d+1)*(p*R):=by
  rw [e0,e1]
  generalize p^d=B
  grind
 rw [h2,h3]
 exact cM (cM h.deep (by simp)) (by simp)
structure iM (p:Int)(f:List Int)(a:Int)(d t:Nat)(r:Int):Prop where
 lo:0≤r
 hi:r<p^t
 near:(r-a)%p^(d+1)=0
 deep:aA f r%p^(t+d)=0
theorem iM.start {p:Int}{f:List Int}{a u:Int}{d:Nat}(hp:2≤p)(h:da p f a d u):iM p f a d (d+1) (a%p^(d+1)):=by
 have q0:=pow_pos hp (d+1)
 have n:=i8 (p^(d+1)) a
 obtain⟨v,hv,_⟩:=h.near hp n
 exact⟨Int.emod_nonneg _ (by omega),Int.emod_lt_of_pos _ q0,n,by rw [show d+1+d=2*d+1 by omega];exact hv.deep⟩
theorem iM.step {p:Int}{f:List Int}{a u y r:Int}{d t:Nat}(hp:2≤p)(h:da p f a d u)(hu:(u*y-1)%p=0)(ht:d+1≤t)(R:iM p f a d t r) :
    iM p f a d (t+1) (r + -(aA f r/p^(t+d))*y%p*p^t):=by
  have q0:=pow_pos hp t
  have q1:=pow_pos hp (t+d)
  obtain⟨v,hv,hvu⟩:=h.near hp R.near
  have s0:0≤-(aA f r/p^(t+d))*y%p:=Int.emod_nonneg _ (by omega)
  have s1:-(aA f r/p^(t+d))*y%p<p:=Int.emod_lt_of_pos _ (by omega)
  have s2:=i8 p (-(aA f r/p^(t+d))*y)
  generalize hs:-(aA f r/p^(t+d))*y%p=s at s0 s1 s2 ⊢
  have hw:aA f r=p^(t+d)*(aA f r/p^(t+d)):=by
    have:=Int.mul_ediv_add_emod (aA f r) (p^(t+d))
    rw [R.deep] at this
    omega
  generalize aA f r/p^(t+d)=w at hw s2
  have m0:0≤s*p^t:=Int.mul_nonneg s0 (by omega)
  have m1:s*p^t≤(p-1)*p^t:=Int.mul_le_mul_of_nonneg_right (by omega) (by omega)
  refine⟨by have:=R.lo;omega,?_,?_,?_⟩
  · have:=R.hi
    rw [Int.pow_succ,Int.mul_comm (p^t) p]
    rw [Int.sub_mul,Int.one_mul] at m1
    omega
  · rw [show r+s*p^t-a=(r-a)+s*p^t by omega]
    exact cM R.near (eE s (vp ht))
  · obtain⟨T,eT⟩:=zG f r s (p^t)
    rw [eT,hw,hv.jY.1]
    have e2:p^(t+d)*w+s*p^t*(v*p^d)=p^(t+d)*(w+s*v):=by
      rw [pow_add']
      generalize p^t=A
      generalize p^d=B
      grind
    have e3:(w+s*v)%p=0:=by
      obtain⟨k1,h1⟩:=Int.dvd_of_emod_eq_zero s2
      obtain⟨k2,h2⟩:=Int.dvd_of_emod_eq_zero hvu
      obtain⟨k3,h3⟩:=Int.dvd_of_emod_eq_zero hu
      have:w+s*v=p*(-w*k3+k1*v-w*y*k2):=by grind
      rw [this]
      simp
    obtain⟨k,ek⟩:=Int.dvd_of_emod_eq_zero e3
    have e4:p^t*p^t*T=p^(t+1+d)*(p^(t-d-1)*T):=by
      have:p^t=p^(d+1)*p^(t-d-1):=by rw [←pow_add'];congr 1;omega
      have h5:p^t*p^t=p^(t+1+d)*p^(t-d-1):=by
        rw [show t+1+d=t+(d+1) by omega,pow_add' p t (d+1),Int.mul_assoc,←this]
      rw [h5,Int.mul_assoc]
    rw [e2,ek,e4]
    have e5:p^(t+d)*(p*k)=p^(t+1+d)*k:=by
      rw [show t+1+d=t+d+1 by omega,Int.pow_succ,Int.mul_assoc]
    rw [e5]
    exact cM (by simp) (by simp)
structure Rows (M a R S r t s:Int):Prop where
 sg:s=1∨s = -1
 r0:0≤r
 rR:r<R
 st:1≤s*t
 sS:s*S≤0
 det:R*t-r*S=s*M
 h1:(R-a*S)%M=0
 h2:(r-a*t)%M=0
theorem Rows.start {M a:Int}(hM:0<M):Rows M a M 0 (a%M) 1 1:=by
 refine⟨.inl rfl,Int.emod_nonneg _ (by omega),Int.emod_lt_of_pos _ hM,by omega,by omega,by omega,by simp,?_⟩
 rw [Int.mul_one]
 exact i8 M a
theorem Rows.step {M a R S r t s:Int}(h:Rows M a R S r t s)(hr:0<r):Rows M a r t (R-R/r*r) (S-R/r*t) (-s):=by
 have hq:1≤R/r:=by
  have:=h.rR
  exact (Int.le_ediv_iff_mul_le hr).mpr (by omega)
 have e:=Int.mul_ediv_add_emod R r
 have m0:=Int.emod_nonneg R (show r≠0 by omega)
 have m1:=Int.emod_lt_of_pos R hr
 have e1:R-R/r*r=R%r:=by rw [Int.mul_comm];omega
 generalize R/r=q at *
 have hst:=h.st
 have hsS:=h.sS
 have hdet:=h.det
 refine⟨?_,by omega,by omega,?_,?_,?_,h.h2,?_⟩
 ·rcases h.sg with z|z
  ·right;omega
  ·left;omega
 ·have:1*1≤q*(s*t):=Int.mul_le_mul hq hst (by omega) (by omega)
  have e3:-s*(S-q*t) = -(s*S)+q*(s*t):=by grind
  rw [e3]
  omega
 ·have e3:-s*t = -(s*t):=by grind
  rw [e3]
  omega
 ·grind
 ·have e3:R-q*r-a*(S-q*t)=(R-a*S)-q*(r-a*t):=by grind
  rw [e3]
  exact dj h.h1 (eE q h.h2)
theorem Rows.small {M a R S r t s:Int}(h:Rows M a R S r t s)(hM:0<M):-M≤t∧t≤M∧R≤M:=by
 have h0:=h.r0
 have h1:=h.rR
 have hst:=h.st
 have e1:R*(s*t)+r * -(s*S)=s*s*M:=by
  have:=h.det
  grind
 have e2:s*s=1:=by rcases h.sg with z | z<;>rw [z]<;>rfl
 have e3:0≤r * -(s*S):=Int.mul_nonneg h0 (by have:=h.sS;omega)
 have e4:1*(s*t)≤R*(s*t):=Int.mul_le_mul_of_nonneg_right (by omega) (by omega)
 have e5:R*1≤R*(s*t):=Int.mul_le_mul_of_nonneg_left hst (by omega)
 rw [e2,Int.one_mul] at e1
 have k1:s*t≤M:=by omega
 have k2:R≤M:=by omega
 refine⟨?_,?_,k2⟩<;>rcases h.sg with z | z<;>rw [z] at k1 hst<;>omega
noncomputable def tV:List Int→List Int
 | []=>[]
 | _::f=>match f with
  | []=>[]
  | _=>fu f (fu (tV f) (0::tV f))
theorem zA (x:Int):∀f:List Int,aA (tV f) x=aA f (x+1)-aA f x
 | []=>by simp [tV,aA]
 | [a]=>by simp [tV,aA]
 | a::b::f=>by
  have ih:=zA x (b::f)
  rw [tV]
  ·rw [oT,oT]
   simp only [aA] at ih ⊢
   grind
  ·simp
theorem BQ:∀f:List Int,(tV f).length=f.length-1
 | []=>rfl
 | [a]=>by simp [tV]
 | a::b::f=>by
  have ih:=BQ (b::f)
  rw [tV]
  ·rw [nj,nj]
   simp only [List.length_cons] at ih ⊢
   omega
  ·simp
theorem DT {M:Int}{g:Int→Int}(h0:g 0%M=0)(hd:∀y,(g (y+1)-g y)%M=0)(y:Int):g y%M=0:=by
 have up:∀n:Nat,g (n:Int)%M=0:=λn=>by
  induction n with
  | zero=>exact h0
  | succ n ih=>
   have:=cM (hd (n:Int)) ih
   rwa [show g ((n:Int)+1)-g (n:Int)+g (n:Int)=g ((n:Int)+1) by omega,show ((n:Int)+1)=((n+1:Nat):Int) by omega] at this
 have dn:∀n:Nat,g (-(n:Int))%M=0:=λn=>by
  induction n with
  | zero=>exact h0
  | succ n ih=>
   have:=dj ih (hd (-((n+1:Nat):Int)))
   rwa [show g (-(n:Int))-(g (-((n+1:Nat):Int)+1)-g (-((n+1:Nat):Int)))=g (-((n+1:Nat):Int)) by rw [show -((n+1:Nat):Int)+1 = -(n:Int) by omega];omega] at this
 rcases Int.le_total 0 y with h|h
 ·have:=up y.toNat
  rwa [Int.toNat_of_nonneg h] at this
 ·have:=dn (-y).toNat
  rwa [Int.toNat_of_nonneg (show 0≤-y by omega),Int.neg_neg] at this
theorem uS {M:Int}:∀(n:Nat) (f:List Int),f.length=n→(∀y:Int,0≤y→y<(n:Int)→aA f y%M=0)→∀y,aA f y%M=0
 | 0,f,hl,_,y=>by
  have:f=[]:=List.eq_nil_of_length_eq_zero hl
  rw [this]
  simp [aA]
 | n+1,f,hl,h,y=>by
  refine DT (g:=aA f) (h 0 (by omega) (by omega)) (λy=>?_) y
  rw [←zA]
  refine uS n (tV f) (by rw [BQ];omega) (λz h0 h1=>?_) y
  rw [zA]
  exact dj (h (z+1) (by omega) (by omega)) (h z h0 (by omega))
noncomputable def pq (r:Int):List Int→List Int
 | []=>[]
 | _::f=>fu f ((pq r f).map (r*·))
theorem lG (r x:Int):∀f:List Int,aA f x=aA f r+(x-r)*aA (pq r f) x
 | []=>by simp [aA,pq]
 | a::f=>by
  have ih:=lG r x f
  simp only [aA,pq,oT,sF]
  grind
theorem vq (r:Int):∀f:List Int,(pq r f).length=f.length-1
 | []=>rfl
 | a::f=>by
  have:=vq r f
  simp only [pq,nj,List.length_map,List.length_cons]
  omega
theorem HF (r s:Int)(hrs:r≠s)(f:List Int):pq s (pq r f)=pq r (pq s f):=by
 refine nv _ _ ((r.natAbs:Int)+(s.natAbs:Int)+1) (by simp only [vq]) λx hx=>?_
 have e1:=lG r x f
 have e2:=lG s x (pq r f)
 have e3:=lG s x f
 have e4:=lG r x (pq s f)
 have e5:=lG r s f
 have e6:=lG s r f
 have d:aA (pq r f) s=aA (pq s f) r:=by
  refine Int.eq_of_mul_eq_mul_left (show s-r≠0 by omega) ?_
  grind
 have x1:x-r≠0:=by omega
 have x2:x-s≠0:=by omega
 refine Int.eq_of_mul_eq_mul_left x1 (Int.eq_of_mul_eq_mul_left x2 ?_)
 grind
def ql (p:Int):List Int→Int→Nat→Prop
 | _,_,0=>True
 | f,r,k+1=>aA f r%p=0∧ql p (pq r f) r k
def lT (p:Int)(f:List Int)(m:Nat):Prop:=f.getD m 0%p≠0∧∀j,m<j→f.getD j 0%p=0
theorem xf:∀(f g:List Int) (j:Nat),(fu f g).getD j 0=f.getD j 0+g.getD j 0
 | [],g,j=>by simp [fu]
 | a::f,[],j=>by simp [fu]
 | a::f,b::g,0=>by simp [fu]
 | a::f,b::g,j+1=>by
  have:=xf f g j
  simpa [fu] using this
theorem map_getD (k:Int)(f:List Int)(j:Nat):(f.map (k*·)).getD j 0=k*f.getD j 0:=by
 rw [List.getD_eq_getElem?_getD,List.getD_eq_getElem?_getD,List.getElem?_map]
 cases f[j]?<;>simp
theorem zH (r:Int):∀(f:List Int) (j:Nat),(pq r f).getD j 0=f.getD (j+1) 0+r*(pq r f).getD (j+1) 0
 | [],j=>by simp [pq]
 | [a],j=>by simp [pq,fu]
 | a::b::f,j=>by
  have ih:=zH r (b::f) j
  have h1:∀i,(pq r (a::b::f)).getD i 0=(b::f).getD i 0+r*(pq r (b::f)).getD i 0:=λi=>by
   rw [pq,xf,map_getD]
  rw [h1 j,h1 (j+1)]
  have e:(a::b::f).getD (j+1) 0=(b::f).getD j 0:=by simp
  rw [e,ih]
theorem lT.pq {p r:Int}{f:List Int}{m:Nat}(h:lT p f (m+1)):lT p (pq r f) m:=by
 have dn:∀(k j:Nat),f.length≤j+k→m<j→(Dr.pq r f).getD j 0%p=0:=by
  intro k
  induction k with
  | zero=>
   intro j hj hm
   rw [List.getD_eq_getElem?_getD,List.getElem?_eq_none (by rw [vq];omega)]
   simp
  | succ k ih=>
   intro j hj hm
   rw [zH]
   exact cM (h.2 (j+1) (by omega)) (eE r (ih (j+1) (by omega) (by omega)))
 refine⟨λz=>h.1 ?_,λj hj=>dn f.length j (by omega) hj⟩
 rw [zH] at z
 have:=dj z (eE r (dn f.length (m+1) (by omega) (by omega)))
 rwa [Int.add_sub_cancel] at this
theorem lT.zero {p r:Int}{f:List Int}(h:lT p f 0):aA f r%p≠0:=by
 intro z
 apply h.1
 have:∀(g:List Int),(∀j,0<j→g.getD j 0%p=0)→(aA g r-g.getD 0 0)%p=0:=by
  intro g
  induction g with
  | nil=>intro _;simp [aA]
  | cons a g ih=>
   intro hg
   have hg':∀j,g.getD j 0%p=0:=λj=>by
    have:=hg (j+1) (by omega)
    simpa using this
   have h1:=ih λj _=>hg' j
   have h2:aA g r%p=0:=by
    have:=cM h1 (hg' 0)
    rwa [Int.sub_add_cancel] at this
   have e:aA (a::g) r-(a::g).getD 0 0=r*aA g r:=by
    simp only [aA]
    simp
    omega
   rw [e]
   exact eE r h2
 have h1:=this f h.2
 have h2:=dj z h1
 rwa [show aA f r-(aA f r-f.getD 0 0)=f.getD 0 0 by omega] at h2
theorem ql.other {p r s:Int}(hp:p∈cm)(hrs:(s-r)%p≠0):∀(k:Nat) (f:List Int),aA f r%p=0→ql p f s k→ql p (pq r f) s k
 | 0,_,_,_=>trivial
 | k+1,f,hr,hv=>by
  obtain⟨h1,h2⟩:=hv
  have ne:r≠s:=λz=>hrs (by rw [z];simp)
  have e:=lG r s f
  have h3:(s-r)*aA (pq r f) s%p=0:=by
   have:=dj h1 hr
   rwa [show aA f s-aA f r=(s-r)*aA (pq r f) s by omega] at this
  have h4:=euclid hp h3 hrs
  refine⟨h4,?_⟩
  rw [HF r s ne]
  refine ql.other hp hrs k (pq s f) ?_ h2
  have e2:=lG s r f
  have d:aA (pq r f) s=aA (pq s f) r:=by
   refine Int.eq_of_mul_eq_mul_left (show s-r≠0 by omega) ?_
   grind
  rw [←d]
  exact h4
noncomputable def total (L:List (Int×Nat)):Nat:=(L.map (·.2)).sum
theorem je {p:Int}(hp:p∈cm):∀(m:Nat) (f:List Int) (L:List (Int×Nat)),lT p f m→(L.map (·.1)).Pairwise (λr s=>(s-r)%p≠0)→(∀rk,rk∈L→ql p f rk.1 rk.2)→total L≤m
 | m,f,[],_,_,_=>by simp [total]
 | m,f,(r,0)::L,hd,hpw,hv=>by
  have:=je hp m f L hd (List.Pairwise.of_cons (by simpa using hpw)) λrk h=>hv rk (List.mem_cons_of_mem _ h)
  simpa [total] using this
 | 0,f,(r,k+1)::L,hd,_,hv=>absurd (hv _ (List.mem_cons_self ..)).1 hd.zero
 | m+1,f,(r,k+1)::L,hd,hpw,hv=>by
  have v0:=hv _ (List.mem_cons_self ..)
  have hpw':(∀s,s∈L.map (·.1)→(s-r)%p≠0)∧(L.map (·.1)).Pairwise (λr s=>(s-r)%p≠0):=by
   have:=List.pairwise_cons.mp (show (r::L.map (·.1)).Pairwise (λr s=>(s-r)%p≠0) by simpa using hpw)
   exact this
  have:=je hp m (pq r f) ((r,k)::L) hd.pq (by simpa using hpw) λrk h=>by
   rcases List.mem_cons.mp h with z|z
   ·rw [z]
    exact v0.2
   ·exact ql.other hp (hpw'.1 _ (List.mem_map_of_mem z)) _ _ v0.1 (hv rk (List.mem_cons_of_mem _ z))
  simp only [total,List.map_cons,List.sum_cons] at this ⊢
  omega
termination_by m _ L=>(m,L.length)
def oE (p x:Int)(b:Int×Nat):Prop:=(x-b.1)%p^b.2=0
def Ig (p:Int)(b c:Int×Nat):Prop:=∀x,oE p x b→¬oE p x c
structure Tree (p a:Int)(e:Nat)(Sol:Int→Prop)(bs:List (Int×Nat)):Prop where
 ok:∀b,b∈bs→e≤b.2∧0≤b.1∧b.1<p^b.2∧(b.1-a)%p^e=0
 sound:∀b,b∈bs→∀x,oE p x b→Sol x
 full:∀x,(x-a)%p^e=0→Sol x→∃b,b∈bs∧oE p x b
 vT:bs.Pairwise (Ig p)
 max:∀b,b∈bs→b.2=e∨∃x,(x-b.1)%p^(b.2-1)=0∧¬Sol x
theorem oE.self (p a:Int)(e:Nat):oE p a (a,e):=by
 show (a-a)%p^e=0
 rw [Int.sub_self]
 simp
theorem Tree.leaf {p a:Int}{e:Nat}{Sol:Int→Prop}(ha:0≤a∧a<p^e)(h:∀x,(x-a)%p^e=0→Sol x):Tree p a e Sol [(a,e)]:=by
 refine⟨λb hb=>?_,λb hb x hx=>?_,λx hx _=>⟨(a,e),by simp,hx⟩,by simp,λb hb=>?_⟩
 ·rw [List.mem_singleton.mp hb]
  exact⟨Nat.le_refl _,ha.1,ha.2,by simp⟩
 ·rw [List.mem_singleton.mp hb] at hx
  exact h x hx
 ·rw [List.mem_singleton.mp hb]
  exact .inl rfl
structure Part (p a:Int)(e:Nat)(Sol:Int→Prop)(rs:List Int)(bs:List (Int×Nat)):Prop where
 ok:∀b,b∈bs→e+1≤b.2∧0≤b.1∧b.1<p^b.2∧∃r,r∈rs∧(b.1-(a+r*p^e))%p^(e+1)=0
 sound:∀b,b∈bs→∀x,oE p x b→Sol x
 full:∀x r,r∈rs→(x-(a+r*p^e))%p^(e+1)=0→Sol x→∃b,b∈bs∧oE p x b
 vT:bs.Pairwise (Ig p)
 max:∀b,b∈bs→∃x,(x-b.1)%p^(b.2-1)=0∧¬Sol x
theorem Part.nil {p a:Int}{e:Nat}{Sol:Int→Prop}:Part p a e Sol [] []:=⟨(λ_ h=>nomatch h),(λ_ h=>nomatch h),(λ_ _ h=>nomatch h),.nil,(λ_ h=>nomatch h)⟩
theorem FK {p r s:Int}(hr:0≤r∧r<p)(hs:0≤s∧s<p)(h:(r-s)%p=0):r=s:=by
 obtain⟨k,e⟩:=Int.dvd_of_emod_eq_zero h
 have:k=0:=by
  refine Decidable.byContradiction λz=>?_
  rcases Int.lt_or_gt_of_ne z with z|z
  ·have:p*k≤p * -1:=Int.mul_le_mul_of_nonneg_left (by omega) (by omega)
   omega
  ·have:p*1≤p*k:=Int.mul_le_mul_of_nonneg_left (by omega) (by omega)
   omega
 rw [this] at e
 omega
theorem HI {p a x r s:Int}{e:Nat}(hp:2≤p)(h:(x-(a+r*p^e))%p^(e+1)=0)(h':(x-(a+s*p^e))%p^(e+1)=0):(r-s)%p=0:=by
 have h1:=dj h' h
 rw [show x-(a+s*p^e)-(x-(a+r*p^e))=r*p^e-s*p^e by omega,←Int.sub_mul,Int.pow_succ] at h1
 obtain⟨k,ek⟩:=Int.dvd_of_emod_eq_zero h1
 have q0:=pow_pos hp e
 have:r-s=p*k:=by
  refine Int.eq_of_mul_eq_mul_left (show p^e≠0 by omega) ?_
  generalize p^e=A at *
  grind
 rw [this]
 simp
theorem Part.more {p a:Int}{e:Nat}{Sol:Int→Prop}{rs:List Int}{r:Int}{bs cs:List (Int×Nat)}(hp:2≤p)(h:Part p a e Sol rs bs)(hrs:∀s,s∈rs→0≤s∧s<p∧s≠r)(hr:0≤r∧r<p)
    (t:Tree p (a+r*p^e) (e+1) Sol cs) (hn:∃x,(x-a)%p^e=0∧¬Sol x):Part p a e Sol (rs++[r]) (bs++cs):=by
  refine⟨λb hb=>?_,λb hb=>?_,λx s hs hx sol=>?_,?_,λb hb=>?_⟩
  · rcases List.mem_append.mp hb with z|z
    · obtain⟨h1,h2,h3,s,hs,h4⟩:=h.ok b z
      exact⟨h1,h2,h3,s,List.mem_append_left _ hs,h4⟩
    · obtain⟨h1,h2,h3,h4⟩:=t.ok b z
      exact⟨h1,h2,h3,r,by simp,h4⟩
  · rcases List.mem_append.mp hb with z|z
    · exact h.sound b z
    · exact t.sound b z
  · rcases List.mem_append.mp hs with z|z
    · obtain⟨b,hb,hi⟩:=h.full x s z hx sol
      exact⟨b,List.mem_append_left _ hb,hi⟩
    · rw [List.mem_singleton.mp z] at hx
      obtain⟨b,hb,hi⟩:=t.full x hx sol
      exact⟨b,List.mem_append_right _ hb,hi⟩
  · refine List.pairwise_append.mpr ⟨h.vT,t.vT,λb hb c hc x hx hx'=>?_⟩
    obtain⟨h1,_,_,s,hs,h4⟩:=h.ok b hb
    obtain⟨g1,_,_,g4⟩:=t.ok c hc
    have e1:(x-(a+s*p^e))%p^(e+1)=0:=by
      have:=cM (eF (show (x-b.1)%p^b.2=0 from hx) h1) h4
      rwa [show x-b.1+(b.1-(a+s*p^e))=x-(a+s*p^e) by omega] at this
    have e2:(x-(a+r*p^e))%p^(e+1)=0:=by
      have:=cM (eF (show (x-c.1)%p^c.2=0 from hx') g1) g4
      rwa [show x-c.1+(c.1-(a+r*p^e))=x-(a+r*p^e) by omega] at this
    obtain⟨k1,k2,k3⟩:=hrs s hs
    exact k3 (FK ⟨k1,k2⟩ hr (HI hp e1 e2))
  · rcases List.mem_append.mp hb with z|z
    · exact h.max b z
    · rcases t.max b z with w|w
      · obtain⟨x,hx,ns⟩:=hn
        refine⟨x,?_,ns⟩
        rw [w,Nat.add_sub_cancel]
        have h4:=(t.ok b z).2.2.2
        have h5:=eF (p:=p) h4 (Nat.le_succ e)
        have h6:=eE r (vp (p:=p) (Nat.le_refl e))
        have:=dj hx (cM h5 h6)
        rwa [show x-a-(b.1-(a+r*p^e)+r*p^e)=x-b.1 by omega] at this
      · exact w
theorem Part.tree {p a:Int}{e:Nat}{Sol:Int→Prop}{rs:List Int}{bs:List (Int×Nat)}(h:Part p a e Sol rs bs)(all:∀x,(x-a)%p^e=0→Sol x→∃r,r∈rs∧(x-(a+r*p^e))%p^(e+1)=0):Tree p a e Sol bs:=by
 refine⟨λb hb=>?_,h.sound,λx hx sol=>?_,h.vT,λb hb=>.inr (h.max b hb)⟩
 ·obtain⟨h1,h2,h3,r,_,h4⟩:=h.ok b hb
  refine⟨by omega,h2,h3,?_⟩
  have h5:=eF (p:=p) h4 (Nat.le_succ e)
  have h6:=eE r (vp (p:=p) (Nat.le_refl e))
  have:=cM h5 h6
  rwa [show b.1-(a+r*p^e)+r*p^e=b.1-a by omega] at this
 ·obtain⟨r,hr,hx'⟩:=all x hx sol
  exact h.full x r hr hx' sol
noncomputable def mm (r:Int):Nat→List Int→List Int
 | 0,_=>[]
 | n+1,f=>aA f r::mm r n (pq r f)
theorem Ag (r y:Int):∀(n:Nat) (f:List Int),f.length≤n→aA (mm r n f) y=aA f (r+y)
 | 0,f,h=>by
  have:f=[]:=List.eq_nil_of_length_eq_zero (by omega)
  rw [this]
  simp [mm,aA]
 | n+1,f,h=>by
  have ih:=Ag r y n (pq r f) (by rw [vq];omega)
  have e:=lG r (r+y) f
  simp only [mm,aA,ih]
  rw [e]
  grind
theorem B7 (r:Int):∀(n:Nat) (f:List Int),(mm r n f).length=n
 | 0,_=>rfl
 | n+1,f=>by simp [mm,B7 r n]
theorem B8 {p r:Int}:∀(k n:Nat) (f:List Int),k≤n→(∀j,j<k→(mm r n f).getD j 0%p=0)→ql p f r k
 | 0,_,_,_,_=>trivial
 | k+1,0,_,h,_=>absurd h (by omega)
 | k+1,n+1,f,h,hj=>by
  refine⟨?_,B8 k n (pq r f) (by omega) λj hj'=>?_⟩
  ·have:=hj 0 (by omega)
   simpa [mm] using this
  ·have:=hj (j+1) (by omega)
   simpa [mm] using this
noncomputable def rO (q:Int):Int→List Int→List Int
 | _,[]=>[]
 | k,a::f=>k*a::rO q (k*q) f
theorem B1 (q:Int):∀(f:List Int) (k:Int),(rO q k f).length=f.length
 | [],_=>rfl
 | a::f,k=>by simp [rO,B1 q f]
theorem EB (q y:Int):∀(f:List Int) (k:Int),aA (rO q k f) y=k*aA f (q*y)
 | [],_=>by simp [rO,aA]
 | a::f,k=>by
  have ih:=EB q y f (k*q)
  simp only [rO,aA,ih]
  grind
theorem B0 (q:Int):∀(f:List Int) (k:Int) (j:Nat),(rO q k f).getD j 0=k*q^j*f.getD j 0
 | [],_,j=>by simp [rO]
 | a::f,k,0=>by simp [rO]
 | a::f,k,j+1=>by
  have ih:=B0 q f (k*q) j
  simp only [rO,List.getD_cons_succ,ih,Int.pow_succ]
  generalize q^j=A
  generalize f.getD j 0=B
  grind
theorem uy {f s:List Int}{r q:Int}(h:fU f r q s)(j:Nat):s.getD j 0=q^j*(mm r f.length f).getD j 0:=by
 have e:s=rO q 1 (mm r f.length f):=by
  refine mI (by rw [B1,B7];exact h.len) λy=>?_
  rw [h.ev,EB,Ag r _ _ _ (Nat.le_refl _),Int.one_mul]
 rw [e,B0,Int.one_mul]
theorem FC {p:Int}{g:List Int}{c:Nat}(h:∀x,x∈g→x%p^c=0)(j:Nat):g.getD j 0=p^c*(dJ (p^c) g).getD j 0:=by
 have e:=rJ h
 conv=>lhs;rw [e]
 rw [map_getD]
theorem zU {p r:Int}{f s:List Int}{c m:Nat}(hp:2≤p)(h:fU f r p s)(hc:dz p s c)(hm:lT p (dJ (p^c) s) m):ql p f r m:=by
 have hml:m<f.length:=by
  refine Nat.lt_of_not_le λz=>hm.1 ?_
  rw [List.getD_eq_getElem?_getD,List.getElem?_eq_none (by rw [kY];rw [h.len];exact z)]
  simp
 have g:∀j,p^c*(dJ (p^c) s).getD j 0=p^j*(mm r f.length f).getD j 0:=λj=>by
  rw [←FC hc.1,uy h]
 have hcm:m≤c:=by
  refine u5 (p:=p) (u:=(dJ (p^c) s).getD m 0) (v:=(mm r f.length f).getD m 0) hp ?_ hm.1
  have:=g m
  rw [Int.mul_comm,this,Int.mul_comm]
 refine B8 m f.length f (by omega) λj hj=>?_
 have e:=g j
 obtain⟨d,rfl⟩:∃d,c=j+(d+1):=⟨c-j-1,by omega⟩
 rw [pow_add',Int.mul_assoc] at e
 have q0:=pow_pos hp j
 have e2:=Int.eq_of_mul_eq_mul_left (show p^j≠0 by omega) e
 rw [←e2,Int.pow_succ,Int.mul_assoc]
 exact eE _ (by simp)
theorem mF {p:Int}:∀(g:List Int),(∃x,x∈g∧x%p≠0)→∃m,m<g.length∧lT p g m
 | [],h=>by obtain⟨x,hx,_⟩:=h;cases hx
 | a::g,h=>by
  by_cases w:∃x,x∈g∧x%p≠0
  ·obtain⟨m,hm,h1,h2⟩:=mF g w
   refine⟨m+1,by simp;omega,by simpa using h1,λj hj=>?_⟩
   cases j with
   | zero=>omega
   | succ j=>simpa using h2 j (by omega)
  ·obtain⟨x,hx,hn⟩:=h
   have hx':x=a:=by
    rcases List.mem_cons.mp hx with z|z
    ·exact z
    ·exact absurd ⟨x,z,hn⟩ w
   subst hx'
   refine⟨0,by simp,by simpa using hn,λj hj=>?_⟩
   cases j with
   | zero=>omega
   | succ j=>
    simp only [List.getD_cons_succ]
    rw [List.getD_eq_getElem?_getD]
    cases e:g[j]? with
    | none=>simp
    | some y=>exact Decidable.byContradiction λz=>w ⟨y,List.mem_of_getElem? e,z⟩
theorem iZ {p:Int}{g:List Int}{c:Nat}(hc:dz p g c):∃x,x∈dJ (p^c) g∧x%p≠0:=by
 obtain⟨x,hx,hn⟩:=hc.2
 exact⟨x/p^c,List.mem_map_of_mem hx,hn⟩
def Bx (p:Int)(g:List Int)(k:Nat):Prop:=(∀c m,dz p g c→lT p (dJ (p^c) g) m→k≤max 1 m)∧k≤max 1 g.length
theorem Bx.one (p:Int)(g:List Int):Bx p g 1:=⟨λ_ _ _ _=>by omega,by omega⟩
def Got (p:Int)(f:List Int)(rs:List Int)(k:Nat):Prop:=∃L:List (Int×Nat),L.map (·.1)=rs∧k≤total L∧∀rk,rk∈L→ql p f rk.1 rk.2
theorem Got.nil (p:Int)(f:List Int):Got p f [] 0:=⟨[],rfl,by simp,λ_ h=>nomatch h⟩
theorem Got.more {p r:Int}{f s rs:List Int}{k l:Nat}(hp:2≤p)(h:Got p f rs k)(hr:aA f r%p=0)(hs:fU f r p s)(hl:Bx p s l)(hz:(∀x,x∈s→x=0)→l≤1)(hcex:(∃x,x∈s∧x≠0)→∃c,dz p s c):Got p f (rs++[r]) (k+l):=by
 obtain⟨L,e1,e2,e3⟩:=h
 obtain⟨n,hn,hv⟩:∃n,l≤n∧ql p f r n:=by
  by_cases w:∃x,x∈s∧x≠0
  ·obtain⟨c,hc⟩:=hcex w
   obtain⟨m,_,hm⟩:=mF _ (iZ hc)
   have v:=zU hp hs hc hm
   cases m with
   | zero=>exact⟨1,hl.1 c 0 hc hm,hr,trivial⟩
   | succ m=>exact⟨m+1,by have:=hl.1 c (m+1) hc hm;omega,v⟩
  ·refine⟨1,hz λx hx=>Decidable.byContradiction λz=>w ⟨x,hx,z⟩,hr,trivial⟩
 refine⟨L++[(r,n)],by simp [e1],?_,λrk h=>?_⟩
 ·simp only [total,List.map_append,List.map_cons,List.map_nil,List.sum_append,List.sum_cons,List.sum_nil] at e2 ⊢
  omega
 ·rcases List.mem_append.mp h with z|z
  ·exact e3 rk z
  ·rw [List.mem_singleton.mp z]
   exact hv
theorem Got.cnt {p:Int}{g:List Int}{rs:List Int}{c k:Nat}(hp:p∈cm)(hc:dz p g c)(h:Got p (dJ (p^c) g) rs k)(hrs:rs.Pairwise (λr s=>(s-r)%p≠0)):Bx p g k:=by
 obtain⟨L,e1,e2,e3⟩:=h
 have p2:=(cy hp).1
 refine⟨λc' m hc' hm=>?_,?_⟩
 ·cases hc.uniq p2 hc'
  have:=je hp m _ L hm (by rw [e1];exact hrs) e3
  omega
 ·obtain⟨m,hml,hm⟩:=mF _ (iZ hc)
  have:=je hp m _ L hm (by rw [e1];exact hrs) e3
  rw [kY] at hml
  omega
theorem Tree.depth {p a:Int}{e N:Nat}{f:List Int}{bs:List (Int×Nat)}(h:Tree p a e (λx=>aA f x%p^N=0) bs)(he:e≤N):∀b,b∈bs→b.2≤N:=by
 intro b hb
 rcases h.max b hb with z|⟨x,hx,hn⟩
 ·omega
 ·refine Nat.le_of_not_lt λz=>hn ?_
  have h1:=h.sound b hb b.1 (oE.self ..)
  have h2:=uq f (eF hx (show N≤b.2-1 by omega))
  have:=cM h2 h1
  rwa [Int.sub_add_cancel] at this
theorem Tree.sub {p:Int}{Sol:Int→Prop}{bs cs:List (Int×Nat)}(hp:2≤p)(h:Tree p 0 0 Sol bs)(h':Tree p 0 0 Sol cs):∀b,b∈bs→b∈cs:=by
 intro b hb
 obtain⟨c,hc,hi⟩:=h'.full b.1 (by simp [Int.emod_one]) (h.sound b hb b.1 (oE.self ..))
 have hi:(b.1-c.1)%p^c.2=0:=hi
 have e:b.2=c.2:=by
  refine Nat.le_antisymm (Nat.le_of_not_lt λz=>?_) (Nat.le_of_not_lt λz=>?_)
  ·rcases h.max b hb with w|⟨x,hx,hn⟩
   ·omega
   ·refine hn (h'.sound c hc x ?_)
    have:=cM (eF hx (show c.2≤b.2-1 by omega)) hi
    rwa [show x-b.1+(b.1-c.1)=x-c.1 by omega] at this
  ·rcases h'.max c hc with w|⟨x,hx,hn⟩
   ·omega
   ·refine hn (h.sound b hb x ?_)
    have h1:=eF hx (show b.2≤c.2-1 by omega)
    have h2:=eF hi (show b.2≤c.2 by omega)
    have:=dj h1 h2
    rwa [show x-c.1-(b.1-c.1)=x-b.1 by omega] at this
 obtain⟨_,b0,b1,_⟩:=h.ok b hb
 obtain⟨_,c0,c1,_⟩:=h'.ok c hc
 rw [←e] at hi c1
 have e1:b.1=c.1:=by
  have:=Hq hi
  rwa [Int.emod_eq_of_lt b0 b1,Int.emod_eq_of_lt c0 c1] at this
 have:b=c:=by
  cases b;cases c
  simp only at e e1
  rw [e,e1]
 rw [this]
 exact hc
def sW (b c:Int×Nat):Prop:=b.1<c.1∨(b.1=c.1∧b.2<c.2)
theorem y9:∀(bs cs:List (Int×Nat)),bs.Pairwise sW→cs.Pairwise sW→(∀b,b∈bs↔b∈cs)→bs=cs
 | [],[],_,_,_=>rfl
 | [],c::cs,_,_,h=>absurd ((h c).mpr (List.mem_cons_self ..)) (by simp)
 | b::bs,[],_,_,h=>absurd ((h b).mp (List.mem_cons_self ..)) (by simp)
 | b::bs,c::cs,hb,hc,h=>by
  obtain⟨hb1,hb2⟩:=List.pairwise_cons.mp hb
  obtain⟨hc1,hc2⟩:=List.pairwise_cons.mp hc
  have irr:∀x:Int×Nat,¬sW x x:=λx z=>by unfold sW at z;omega
  have asym:∀x y:Int×Nat,sW x y→¬sW y x:=λx y z w=>by unfold sW at z w;omega
  have e:b=c:=by
   rcases List.mem_cons.mp ((h b).mp (List.mem_cons_self ..)) with z|z
   ·exact z
   rcases List.mem_cons.mp ((h c).mpr (List.mem_cons_self ..)) with w|w
   ·exact w.symm
   exact absurd (hc1 b z) (asym _ _ (hb1 c w))
  subst e
  congr 1
  refine y9 bs cs hb2 hc2 λx=>⟨λhx=>?_,λhx=>?_⟩
  ·rcases List.mem_cons.mp ((h x).mp (List.mem_cons_of_mem _ hx)) with z|z
   ·subst z;exact absurd (hb1 _ hx) (irr _)
   ·exact z
  ·rcases List.mem_cons.mp ((h x).mpr (List.mem_cons_of_mem _ hx)) with z|z
   ·subst z;exact absurd (hc1 _ hx) (irr _)
   ·exact z
structure Solve (p:Int)(Sol:Int→Prop)(bs:List (Int×Nat)):Prop where
 tree:Tree p 0 0 Sol bs
 inc:bs.Pairwise sW
theorem Solve.uniq {p:Int}{Sol Sol':Int→Prop}{bs cs:List (Int×Nat)}(hp:2≤p)(h:Solve p Sol bs)(h':Solve p Sol' cs)(e:∀x,Sol x↔Sol' x):bs=cs:=by
 have:Sol=Sol':=funext λx=>propext (e x)
 subst this
 exact y9 bs cs h.inc h'.inc λb=>⟨h.tree.sub hp h'.tree b,h'.tree.sub hp h.tree b⟩
theorem Tree.perm {p a:Int}{e:Nat}{Sol:Int→Prop}{bs cs:List (Int×Nat)}(h:Tree p a e Sol bs)(hp:bs.Perm cs):Tree p a e Sol cs:=by
 refine⟨λb hb=>h.ok b (hp.mem_iff.mpr hb),λb hb=>h.sound b (hp.mem_iff.mpr hb),λx hx sol=>?_,?_,λb hb=>h.max b (hp.mem_iff.mpr hb)⟩
 ·obtain⟨b,hb,hi⟩:=h.full x hx sol
  exact⟨b,hp.mem_iff.mp hb,hi⟩
 ·exact hp.pairwise h.vT λz x hx hx'=>z x hx' hx
theorem Tree.ne {p a:Int}{e:Nat}{Sol:Int→Prop}{bs:List (Int×Nat)}(h:Tree p a e Sol bs):bs.Pairwise (·≠·):=h.vT.imp λ{b c} z w=>by
 subst w
 exact z b.1 (oE.self ..) (oE.self ..)
noncomputable def l1:List Int→Nat
 | []=>0
 | a::f=>a.natAbs+l1 f
theorem vW:∀f g:List Int,l1 (fu f g)≤l1 f+l1 g
 | [],g=>by simp [fu,l1]
 | a::f,[]=>by simp [fu,l1]
 | a::f,b::g=>by
  have:=vW f g
  simp only [fu,l1]
  omega
theorem D1 (k:Int):∀f:List Int,l1 (f.map (k*·))=k.natAbs*l1 f
 | []=>by simp [l1]
 | a::f=>by
  have:=D1 k f
  simp only [List.map_cons,l1,this,Int.natAbs_mul]
  rw [Nat.mul_add]
theorem D3:∀{f:List Int} {c:Int},c∈f→c.natAbs≤l1 f
 | a::f,c,h=>by
  rcases List.mem_cons.mp h with z|z
  ·rw [z];simp only [l1];omega
  ·have:=D3 z
   simp only [l1]
   omega
noncomputable def sn (r q:Int):List Int→List Int
 | []=>[]
 | a::f=>fu [a] (fu ((sn r q f).map (r*·)) (0::(sn r q f).map (q*·)))
theorem EF (r q:Int):∀f:List Int,(sn r q f).length=f.length
 | []=>rfl
 | a::f=>by
  have:=EF r q f
  simp only [sn,nj,List.length_map,List.length_cons,List.length_nil,this]
  omega
theorem GO (r q y:Int):∀f:List Int,aA (sn r q f) y=aA f (r+q*y)
 | []=>by simp [sn,aA]
 | a::f=>by
  have:=GO r q y f
  simp only [sn,oT,aA,sF,this]
  grind
theorem GP {r q:Int}{m:Nat}:∀{f:List Int},bX f m→l1 (sn r q f)<2^m*(r.natAbs+q.natAbs+1)^f.length
 | [],_=>by
  simp only [sn,l1,List.length_nil,Nat.pow_zero,Nat.mul_one]
  exact Nat.pow_pos (by decide)
 | a::f,h=>by
  have ih:=GP (r:=r) (q:=q) (f:=f) λc hc=>h c (List.mem_cons_of_mem _ hc)
  have ha:a.natAbs<2^m:=h a (List.mem_cons_self ..)
  have h1:=vW [a] (fu ((sn r q f).map (r*·)) (0::(sn r q f).map (q*·)))
  have h2:=vW ((sn r q f).map (r*·)) (0::(sn r q f).map (q*·))
  simp only [l1,D1,Int.natAbs_zero,Nat.zero_add,Nat.add_zero] at h1 h2
  have h3:0<(r.natAbs+q.natAbs+1)^f.length:=Nat.pow_pos (by omega)
  simp only [sn,List.length_cons,Nat.pow_succ]
  generalize (r.natAbs+q.natAbs+1)^f.length=B at ih h3 ⊢
  generalize l1 (sn r q f)=L at ih h1 h2 ⊢
  have e:2^m*(B*(r.natAbs+q.natAbs+1))=(r.natAbs+q.natAbs)*(2^m*B)+2^m*B:=by
   rw [←Nat.mul_assoc,Nat.mul_add,Nat.mul_one,Nat.mul_comm (2^m*B)]
  rw [e]
  have h4:(r.natAbs+q.natAbs)*L≤(r.natAbs+q.natAbs)*(2^m*B):=Nat.mul_le_mul_left _ (Nat.le_of_lt ih)
  have h5:2^m≤2^m*B:=Nat.le_mul_of_pos_right _ h3
  rw [Nat.add_mul] at h4
  omega
theorem xk {f s:List Int}{r q:Int}{m:Nat}(h:fU f r q s)(hr:0≤r∧r<100)(hq:0≤q∧q<100)(hb:bX f m):bX s (m+8*f.length):=by
 have e:s=sn r q f:=mI (by rw [EF];exact h.len) λy=>by rw [h.ev,GO]
 intro c hc
 rw [e] at hc
 have h1:=D3 hc
 have h2:=GP (r:=r) (q:=q) hb
 unfold Sm
 rw [Nat.pow_add,Nat.pow_mul]
 refine Nat.lt_of_le_of_lt h1 (Nat.lt_of_lt_of_le h2 (Nat.mul_le_mul_left _ (Nat.pow_le_pow_left (by omega) _)))
theorem xg {f:List Int}{q:Int}{m:Nat}(hq:0<q)(hf:∀x,x∈f→x%q=0)(hb:bX f m):bX (dJ q f) m:=by
 intro c hc
 obtain⟨x,hx,rfl⟩:=List.mem_map.mp hc
 have e:=Int.mul_ediv_add_emod x q
 rw [hf x hx,Int.add_zero] at e
 have h1:=hb x hx
 unfold Sm at *
 have h2:x.natAbs=q.natAbs*(x/q).natAbs:=by rw [←Int.natAbs_mul,e]
 have h3:1*(x/q).natAbs≤q.natAbs*(x/q).natAbs:=Nat.mul_le_mul_right _ (by omega)
 omega
theorem vi {p x:Int}{c N:Nat}(hp:2≤p)(hcN:c≤N):(p^c*x)%p^N=0↔x%p^(N-c)=0:=by
 obtain⟨d,rfl⟩:∃d,N=c+d:=⟨N-c,by omega⟩
 rw [Nat.add_sub_cancel_left,pow_add']
 have q0:=pow_pos hp c
 constructor
 ·intro h
  obtain⟨k,e⟩:=Int.dvd_of_emod_eq_zero h
  rw [Int.mul_assoc] at e
  rw [Int.eq_of_mul_eq_mul_left (by omega) e]
  simp
 ·intro h
  obtain⟨k,e⟩:=Int.dvd_of_emod_eq_zero h
  rw [e,←Int.mul_assoc]
  simp
structure Step (p a:Int)(e N c:Nat)(Sol:Int→Prop)(g:List Int):Prop where
 cN:c<N
 cU:∃x,(x-a)%p^e=0∧¬Sol x
 link:∀y,Sol (a+p^e*y)↔aA (dJ (p^c) g) y%p^(N-c)=0
theorem Hl {p a:Int}{e N:Nat}{Sol:Int→Prop}{g:List Int}(hl:∀y,Sol (a+p^e*y)↔aA g y%p^N=0)(hn:¬∀y:Int,0≤y→y<(g.length:Int)→aA g y%p^N=0):(∃y,aA g y%p^N≠0)∧(∃x,x∈g∧x≠0)∧0<N:=by
 have h1:∃y,aA g y%p^N≠0:=Classical.byContradiction λz=>hn λy _ _=>Decidable.byContradiction λw=>z ⟨y,w⟩
 obtain⟨y,hy⟩:=h1
 refine⟨⟨y,hy⟩,Decidable.byContradiction λz=>hy ?_,Nat.pos_of_ne_zero λz=>hy ?_⟩
 ·have:g=List.replicate g.length 0:=List.eq_replicate_iff.mpr ⟨rfl,λb hb=>Decidable.byContradiction λw=>z ⟨b,hb,w⟩⟩
  rw [this,nW]
  simp
 ·rw [z,Int.pow_zero,Int.emod_one]
theorem Ek {M x:Int}:∀{g:List Int},(∀c,c∈g→c%M=0)→aA g x%M=0
 | [],_=>by simp [aA]
 | a::g,h=>by
  simp only [aA]
  exact cM (h a (List.mem_cons_self ..)) (eE _ (Ek λc hc=>h c (List.mem_cons_of_mem _ hc)))
theorem Step.mk' {p a:Int}{e N c:Nat}{Sol:Int→Prop}{g:List Int}(hp:2≤p)(hc:dz p g c)(hl:∀y,Sol (a+p^e*y)↔aA g y%p^N=0)(hn:∃y,aA g y%p^N≠0):Step p a e N c Sol g:=by
 obtain⟨y,hy⟩:=hn
 have cN:c<N:=Nat.lt_of_not_le λz=>hy (Ek λx hx=>eF (hc.1 x hx) z)
 refine⟨cN,⟨a+p^e*y,?_,λz=>hy ((hl y).mp z)⟩,λy=>?_⟩
 ·rw [show a+p^e*y-a=p^e*y by omega]
  simp
 ·rw [hl,Hu hc.1,vi hp (by omega)]
theorem Step.seen {p a r:Int}{e N c:Nat}{Sol:Int→Prop}{g s:List Int}(h:Step p a e N c Sol g)(hs:fU (dJ (p^c) g) r p s):∀y,Sol (a+r*p^e+p^(e+1)*y)↔aA s y%p^(N-c)=0:=by
 intro y
 rw [hs.ev,←h.link]
 have:a+r*p^e+p^(e+1)*y=a+p^e*(r+p*y):=by
  rw [Int.pow_succ]
  generalize p^e=A
  grind
 rw [this]
theorem Step.all {p a:Int}{e N c:Nat}{Sol:Int→Prop}{g:List Int}(hp:2≤p)(h:Step p a e N c Sol g){x:Int}(hx:(x-a)%p^e=0)(sol:Sol x):∃r,(0≤r∧r<p∧aA (dJ (p^c) g) r%p=0)∧(x-(a+r*p^e))%p^(e+1)=0:=by
 obtain⟨y,ey⟩:=Int.dvd_of_emod_eq_zero hx
 have e1:x=a+p^e*y:=by omega
 rw [e1,h.link] at sol
 have s1:aA (dJ (p^c) g) y%p=0:=by
  have:=eF (p:=p) sol (show 1≤N-c by have:=h.cN;omega)
  rwa [show p^1=p by rw [Int.pow_succ,Int.pow_zero,Int.one_mul]] at this
 refine⟨y%p,⟨Int.emod_nonneg _ (by omega),Int.emod_lt_of_pos _ (by omega),?_⟩,?_⟩
 ·have:=uq (dJ (p^c) g) (i8 p y)
  have:=cM this s1
  rwa [Int.sub_add_cancel] at this
 ·obtain⟨k,ek⟩:=Int.dvd_of_emod_eq_zero (i8 p y)
  have:x-(a+y%p*p^e)=p^(e+1) * -k:=by
   rw [e1,show y%p=y+p*k by omega,Int.pow_succ]
   generalize p^e=A
   grind
  rw [this]
  simp
theorem HM {p r:Int}{f s:List Int}(h:fU f r p s)(hr:aA f r%p=0):∀x,x∈s→x%p=0:=by
 intro x hx
 obtain⟨j,hj,e⟩:=List.getElem_of_mem hx
 have e1:s.getD j 0=x:=by rw [List.getD_eq_getElem?_getD,List.getElem?_eq_getElem hj,e];rfl
 have g:=uy h j
 rw [e1] at g
 rw [g]
 cases j with
 | zero=>
  have hl:0<f.length:=by rw [←h.len];omega
  cases hf:f.length with
  | zero=>omega
  | succ n=>
   simp only [mm,List.getD_cons_zero,Int.pow_zero,Int.one_mul]
   exact hr
 | succ j=>
  rw [Int.pow_succ,Int.mul_assoc]
  exact eE _ (by simp)
theorem wJ {p a r:Int}{e:Nat}(hp:2≤p)(ha:0≤a∧a<p^e)(hr:0≤r∧r<p):0≤a+r*p^e∧a+r*p^e<p^(e+1):=by
 have q0:=pow_pos hp e
 rw [Int.pow_succ]
 generalize p^e=A at *
 have h1:0≤r*A:=Int.mul_nonneg hr.1 (by omega)
 have h2:(r+1)*A≤p*A:=Int.mul_le_mul_of_nonneg_right (by omega) (by omega)
 rw [Int.add_mul,Int.one_mul] at h2
 rw [Int.mul_comm A p]
 omega
theorem ow {p:Int}{n:Nat}(q:Int→Bool)(hn:(n:Int)≤p):(((List.range n).map λk:Nat=>(k:Int)).filter q).Pairwise (λr s=>(s-r)%p≠0):=by
 refine List.Pairwise.filter q ?_
 rw [List.pairwise_map]
 refine (List.pairwise_lt_range (n:=n)).imp_of_mem λ{i j} hi hj hij=>?_
 have h1:=List.mem_range.mp hi
 have h2:=List.mem_range.mp hj
 rw [Int.emod_eq_of_lt (by omega) (by omega)]
 omega
instance (p x:Int) (b:Int×Nat):Decidable (oE p x b):=inferInstanceAs (Decidable ((x-b.1)%p^b.2=0))
theorem HE {p:Int}(hp:2≤p)(n:Nat):p^n=((p.toNat^n:Nat):Int):=by
 rw [Int.natCast_pow,Int.toNat_of_nonneg (by omega)]
noncomputable def kx (p:Int)(M:Nat)(bs:List (Int×Nat)):Nat:=(bs.map λb=>p.toNat^(M-b.2)).sum
theorem D5 {p:Int}(hp:2≤p)(M:Nat)(bs:List (Int×Nat)):(bs.map λb=>p^(M-b.2)).sum=((kx p M bs:Nat):Int):=by
 induction bs with
 | nil=>rfl
 | cons b bs ih=>
  simp only [kx,List.map_cons,List.sum_cons] at ih ⊢
  rw [ih,HE hp]
  omega
def Within (p:Int)(d b:Int×Nat):Prop:=b.2≤d.2∧(d.1-b.1)%p^b.2=0
instance (p:Int) (d b:Int×Nat):Decidable (Within p d b):=inferInstanceAs (Decidable (_∧_))
def Gm (a b:Int×Int):Prop:=a.2*b.1<b.2*a.1
def Kg (a b:Int×Int):Prop:=a.2*b.1=b.2*a.1
instance (a b:Int×Int):Decidable (Gm a b):=inferInstanceAs (Decidable (_<_))
instance (a b:Int×Int):Decidable (Kg a b):=inferInstanceAs (Decidable (_=_))
noncomputable def E9 (v:Int×Int):List (Int×Int)→Int×Int
 | []=>(0,0)
 | x::L=>if Kg x v then (x.1+(E9 v L).1,x.2+(E9 v L).2) else E9 v L
noncomputable def BU (a b:Int×Int):Int×Int:=(a.1+b.1,a.2+b.2)
noncomputable def iN:List (Int×Int)→Int×Int→List (Int×Int)
 | [],w=>[w]
 | a::L,w=>if Gm a w then w::a::L else iN L (BU a w)
noncomputable def zd (a b:Int×Int):Int×Int:=(a.1-b.1,a.2-b.2)
theorem Cd {p u w:Int}(hp:p∈cm)(hu:u%p≠0)(N:Nat):(u*w)%p^N=0↔w%p^N=0:=by
 have p2:=(cy hp).1
 constructor
 ·intro h
  by_cases z:w=0
  ·rw [z];simp
  ·obtain⟨d,v,hf⟩:=jY p2 z
   have hu':hV p u 0 u:=⟨by simp,hu⟩
   have hm:=hu'.mul hp hf
   rw [Nat.zero_add] at hm
   exact (hf.dvd p2 N).mpr ((hm.dvd p2 N).mp h)
 ·intro h
  exact eE _ h
noncomputable def fF:List (Int×Int)→Nat
 | []=>0
 | x::L=>x.1.natAbs+x.2.natAbs+fF L
theorem pY:∀L M:List (Int×Int),fF (L++M)=fF L+fF M
 | [],M=>by simp [fF]
 | x::L,M=>by
  have:=pY L M
  simp only [List.cons_append,fF,this]
  omega
theorem B9 (L:List (Int×Int)):fF L.reverse=fF L:=by
 induction L with
 | nil=>rfl
 | cons x L ih=>
  rw [List.reverse_cons,pY,ih]
  simp only [fF]
  omega
theorem wy:∀{L:List (Int×Int)} {x:Int×Int},x∈L→x.1.natAbs+x.2.natAbs≤fF L
 | y::L,x,h=>by
  rcases List.mem_cons.mp h with z|z
  ·rw [z];simp only [fF];omega
  ·have:=wy z
   simp only [fF]
   omega
theorem Ah:∀(L:List (Int×Int)) (w:Int×Int),fF (iN L w)≤fF L+fF [w]
 | [],w=>by simp [iN,fF]
 | a::L,w=>by
  rw [iN]
  split
  ·simp only [fF]
   omega
  ·have:=Ah L (BU a w)
   simp only [fF,BU] at this ⊢
   omega
theorem yo:∀(L:List (Int×Int)) (w:Int×Int),(iN L w).length≤L.length+1
 | [],w=>by simp [iN]
 | a::L,w=>by
  rw [iN]
  split
  ·simp
  ·have:=yo L (BU a w)
   simp only [List.length_cons]
   omega
theorem EI {L:List (Int×Int)}{x:Int×Int}{m:Nat}(hx:x∈L)(h:fF L<2^m):Sm x.1 m∧Sm x.2 m:=by
 have:=wy hx
 unfold Sm
 omega
def vK (p:Int):Nat→List Int→Prop
 | 0,_=>True
 | n+1,s=>∃(c:Nat) (r:Int) (t:List Int),dz p s c∧(0≤r∧r<p)∧aA (dJ (p^c) s) r%p=0∧d6 (dJ (p^c) s) r%p=0∧fU (dJ (p^c) s) r p t∧vK p n t
structure lK (p:Int)(g:List Int)(r:Int)(M:Nat)(x:Int):Prop where
 lo:0≤x
 hi:x<p^M
 near:M=0∨(x-r)%p=0
 deep:aA g x%p^M=0
inductive FL (p:Int)(N:Nat)(rec:Int→Nat→List Int→List Int→Prop)(a:Int)(e:Nat)(g:List Int):List Int→List Int→Prop
 | nil:FL p N rec a e g [] []
 | rB {rs L L1 t:List Int} {r:Int}:FL p N rec a e g rs L→d6 g r%p=0→fU g r p t→rec (a+r*p^e) (e+1) t L1→FL p N rec a e g (rs++[r]) (L++L1)
 | leaf {rs L:List Int} {r x:Int}:FL p N rec a e g rs L→d6 g r%p≠0→lK p g r (N-e) x→FL p N rec a e g (rs++[r]) (L++[(a+p^e*x)%p^N])
noncomputable def vw (p:Int)(g:List Int):List Int:=((List.range p.toNat).map λk:Nat=>(k:Int)).filter λr=>decide (aA g r%p=0)
theorem pV {p r:Int}{g:List Int}(hp:0≤p):r∈vw p g↔(0≤r∧r<p)∧aA g r%p=0:=by
 unfold vw
 rw [List.mem_filter,List.mem_map,decide_eq_true_eq]
 constructor
 ·rintro⟨⟨k,hk,rfl⟩,h⟩
  have:=List.mem_range.mp hk
  exact⟨by omega,h⟩
 ·rintro⟨h1,h2⟩
  exact⟨⟨r.toNat,List.mem_range.mpr (by omega),by omega⟩,h2⟩
def Found (p:Int)(N:Nat):Nat→Int→Nat→List Int→List Int→Prop
 | 0,_,_,_,_=>False
 | n+1,a,e,s,L=>∃c:Nat,dz p s c∧FL p N (Found p N n) a e (dJ (p^c) s) (vw p (dJ (p^c) s)) L
theorem DM {x y q:Int}(h:(x-y)%q=0):x%q=y%q:=Int.emod_emod_of_dvd x (Int.dvd_refl q)▸(Int.emod_emod_of_dvd y (Int.dvd_refl q)▸(by
 obtain⟨k,e⟩:=Int.dvd_of_emod_eq_zero h
 rw [show x=y+q*k by omega,Int.add_mul_emod_self_left]))
theorem tW {y:Int}:∀{f:List Int},(∀x,x∈f→x=0)→aA f y=0
 | [],_=>rfl
 | a::f,h=>by
  simp only [aA]
  rw [h a (List.mem_cons_self ..),tW λx hx=>h x (List.mem_cons_of_mem _ hx)]
  simp
theorem HN {f s:List Int}{r q:Int}(hq:q≠0)(h:fU f r q s)(hf:∃x,x∈f∧x≠0):∃x,x∈s∧x≠0:=by
 refine Classical.byContradiction λz=>?_
 have z0:∀x,x∈s→x=0:=λx hx=>Classical.byContradiction λw=>z ⟨x,hx,w⟩
 have t0:∀j,(mm r f.length f).getD j 0=0:=λj=>by
  have e:=uy h j
  have:s.getD j 0=0:=by
   rw [List.getD_eq_getElem?_getD]
   cases w:s[j]? with
   | none=>rfl
   | some x=>exact z0 x (List.mem_of_getElem? w)
  rw [this] at e
  exact (Int.mul_eq_zero.mp e.symm).resolve_left (Int.pow_ne_zero hq)
 have t1:∀x,x∈mm r f.length f→x=0:=λx hx=>by
  obtain⟨i,hi,e⟩:=List.getElem_of_mem hx
  have:=t0 i
  rw [List.getD_eq_getElem?_getD,List.getElem?_eq_getElem hi] at this
  rw [←e]
  exact this
 have e:f=List.replicate f.length 0:=mI (by rw [List.length_replicate]) λx=>by
  rw [nW]
  have:=Ag r (x-r) f.length f (Nat.le_refl _)
  rw [show r+(x-r)=x by omega] at this
  rw [←this]
  exact tW t1
 obtain⟨x,hx,x0⟩:=hf
 rw [e] at hx
 exact x0 (List.mem_replicate.mp hx).2
theorem D6 {p r x y:Int}{g:List Int}{M:Nat}(hp:p∈cm)(hr:d6 g r%p≠0)(hx:(x-r)%p=0)(hy:(y-r)%p=0)(h:(aA g x-aA g y)%p^M=0):(x-y)%p^M=0:=by
 obtain⟨R,e⟩:=vG y (x-y) g
 rw [show y+(x-y)=x by omega] at e
 have h1:(d6 g y-d6 g r)%p=0:=zB g hy
 have h2:(x-y)%p=0:=by
  have:=dj hx hy
  rwa [show x-r-(y-r)=x-y by omega] at this
 have hu:(d6 g y+(x-y)*R)%p≠0:=λz=>by
  apply hr
  have:=dj (dj z (rd R h2)) h1
  rwa [show d6 g y+(x-y)*R-(x-y)*R-(d6 g y-d6 g r)=d6 g r by omega] at this
 rw [show aA g x-aA g y=(d6 g y+(x-y)*R)*(x-y) by rw [e];grind] at h
 exact (Cd hp hu _).mp h
theorem BZ {p x y:Int}{M:Nat}(hx:0≤x∧x<p^M)(hy:0≤y∧y<p^M)(h:(x-y)%p^M=0):x=y:=by
 have:=DM h
 rwa [Int.emod_eq_of_lt hx.1 hx.2,Int.emod_eq_of_lt hy.1 hy.2] at this
theorem lK.uniq {p r x y:Int}{g:List Int}{M:Nat}(hp:p∈cm)(hr:d6 g r%p≠0)(h:lK p g r M x)(h':lK p g r M y):x=y:=by
 refine BZ ⟨h.lo,h.hi⟩ ⟨h'.lo,h'.hi⟩ ?_
 rcases h.near with z|z
 ·rw [z];simp
 ·rcases h'.near with w|w
  ·rw [w];simp
  ·exact D6 hp hr z w (dj h.deep h'.deep)
theorem FL.at {p a r:Int}{N e:Nat}{rec:Int→Nat→List Int→List Int→Prop}{g:List Int}:∀{rs L:List Int},FL p N rec a e g rs L→r∈rs→∃L1,(∀x,x∈L1→x∈L)∧((d6 g r%p=0∧∃t,fU g r p t∧rec (a+r*p^e) (e+1) t L1)∨(d6 g r%p≠0∧∃x,lK p g r (N-e) x∧L1=[(a+p^e*x)%p^N])):=by
 intro rs L fl
 induction fl with
 | nil=>intro h;cases h
 | @rB rs L L1 t s fl0 h1 h2 h3 ih=>
  intro h
  rcases List.mem_append.mp h with z|z
  ·obtain⟨K,hk,o⟩:=ih z
   exact⟨K,λx hx=>List.mem_append_left _ (hk x hx),o⟩
  ·obtain rfl:=List.mem_singleton.mp z
   exact⟨L1,λx hx=>List.mem_append_right _ hx,.inl ⟨h1,t,h2,h3⟩⟩
 | @leaf rs L s x fl0 h1 h2 ih=>
  intro h
  rcases List.mem_append.mp h with z|z
  ·obtain⟨K,hk,o⟩:=ih z
   exact⟨K,λx hx=>List.mem_append_left _ (hk x hx),o⟩
  ·obtain rfl:=List.mem_singleton.mp z
   exact⟨_,λx hx=>List.mem_append_right _ hx,.inr ⟨h1,x,h2,rfl⟩⟩
theorem Found.uj {p:Int}{N:Nat}(hp:2≤p):∀{n:Nat} {a:Int} {e:Nat} {s L:List Int},Found p N n a e s L→¬vK p n s
 | 0,_,_,_,_,h,_=>h
 | n+1,a,e,s,L,h,hd=>by
  obtain⟨c,hc,fl⟩:=h
  obtain⟨c',r,t,hc',hr,h1,h2,ht,hn⟩:=hd
  have ec:=hc'.uniq hp hc
  subst ec
  obtain⟨L1,_,o⟩:=fl.at ((pV (by omega)).mpr ⟨hr,h1⟩)
  rcases o with⟨_,t',ht',hf⟩|⟨n0,_⟩
  ·rw [ht'.uniq ht] at hf
   exact hf.uj hp hn
  ·exact n0 h2
theorem FL.len {p a:Int}{N n e:Nat}{g:List Int}(hp:2≤p)(IH:∀{a:Int} {e:Nat} {s L:List Int},Found p N n a e s L→∀(c m:Nat),dz p s c→lT p (dJ (p^c) s) m→L.length≤m):∀{rs L:List Int},FL p N (Found p N n) a e g rs L→(∀r,r∈rs→aA g r%p=0)→∃R:List (Int×Nat),R.map (·.1)=rs∧L.length≤total R∧∀rk,rk∈R→ql p g rk.1 rk.2:=by
 intro rs L fl
 induction fl with
 | nil=>intro _;exact⟨[],rfl,by simp,λ_ h=>nomatch h⟩
 | @rB rs L L1 t s fl0 h1 h2 h3 ih=>
  intro h
  obtain⟨R,e1,e2,e3⟩:=ih λr hr=>h r (List.mem_append_left _ hr)
  obtain⟨c,m,hc,hm,hl⟩:∃c m,dz p t c∧lT p (dJ (p^c) t) m∧L1.length≤m:=by
   have:∃c,dz p t c:=by
    cases n with
    | zero=>exact h3.elim
    | succ n=>obtain⟨c,hc,_⟩:=h3;exact⟨c,hc⟩
   obtain⟨c,hc⟩:=this
   obtain⟨m,_,hm⟩:=mF _ (iZ hc)
   exact⟨c,m,hc,hm,IH h3 c m hc hm⟩
  refine⟨R++[(s,m)],by rw [List.map_append,e1];rfl,?_,λrk hrk=>?_⟩
  ·unfold total at e2 ⊢
   rw [List.length_append,List.map_append,List.sum_append]
   simp only [List.map_cons,List.map_nil,List.sum_cons,List.sum_nil]
   omega
  ·rcases List.mem_append.mp hrk with z|z
   ·exact e3 rk z
   ·rw [List.mem_singleton.mp z]
    exact zU hp h2 hc hm
 | @leaf rs L s x fl0 h1 h2 ih=>
  intro h
  obtain⟨R,e1,e2,e3⟩:=ih λr hr=>h r (List.mem_append_left _ hr)
  refine⟨R++[(s,1)],by rw [List.map_append,e1];rfl,?_,λrk hrk=>?_⟩
  ·unfold total at e2 ⊢
   rw [List.length_append,List.map_append,List.sum_append]
   simp only [List.map_cons,List.map_nil,List.sum_cons,List.sum_nil,List.length_cons,List.length_nil]
   omega
  ·rcases List.mem_append.mp hrk with z|z
   ·exact e3 rk z
   ·rw [List.mem_singleton.mp z]
    exact⟨h s (by simp),trivial⟩
theorem Found.len {p:Int}{N:Nat}(hp:p∈cm):∀{n:Nat} {a:Int} {e:Nat} {s L:List Int},Found p N n a e s L→∀(c m:Nat),dz p s c→lT p (dJ (p^c) s) m→L.length≤m
 | 0,_,_,_,_,h=>h.elim
 | n+1,a,e,s,L,h=>λc m hc hm=>by
  have p2:=cy hp
  obtain⟨c',hc',fl⟩:=h
  have ec:=hc'.uniq (by omega) hc
  subst ec
  obtain⟨R,e1,e2,e3⟩:=FL.len (by omega) (λh=>Found.len hp h) fl λr hr=>((pV (by omega)).mp hr).2
  have:=je hp m _ R hm (by rw [e1];exact ow _ (by omega)) e3
  omega
theorem Found.eQ {p:Int}{N n e:Nat}{a:Int}{s L:List Int}(hp:p∈cm)(h:Found p N n a e s L):L.length<s.length:=by
 obtain⟨c,hc⟩:∃c,dz p s c:=by
  cases n with
  | zero=>exact h.elim
  | succ n=>obtain⟨c,hc,_⟩:=h;exact⟨c,hc⟩
 obtain⟨m,hl,hm⟩:=mF _ (iZ hc)
 have:=h.len hp c m hc hm
 rw [kY] at hl
 omega
theorem FL.fn {p a:Int}{N e:Nat}{rec:Int→Nat→List Int→List Int→Prop}{g:List Int}(hp:p∈cm)(hrec:∀a e s L L',rec a e s L→rec a e s L'→L=L'):∀{rs L:List Int},FL p N rec a e g rs L→∀{rs' L':List Int},FL p N rec a e g rs' L'→rs=rs'→L=L':=by
 intro rs L fl
 induction fl with
 | nil=>
  intro rs' L' fl' e
  cases fl' with
  | nil=>rfl
  | rB=>simp at e
  | leaf=>simp at e
 | @rB rs L L1 t s fl0 h1 h2 h3 ih=>
  intro rs' L' fl' e
  cases fl' with
  | nil=>simp at e
  | rB f0 g1 g2 g3=>
   obtain⟨e1,e2⟩:=List.append_inj' e rfl
   cases e2
   have et:=h2.uniq g2
   subst et
   rw [ih f0 e1,hrec _ _ _ _ _ h3 g3]
  | leaf f0 g1 g2=>
   obtain⟨e1,e2⟩:=List.append_inj' e rfl
   cases e2
   exact absurd h1 g1
 | @leaf rs L s y fl0 h1 h2 ih=>
  intro rs' L' fl' e
  cases fl' with
  | nil=>simp at e
  | rB f0 g1 g2 g3=>
   obtain⟨e1,e2⟩:=List.append_inj' e rfl
   cases e2
   exact absurd g1 h1
  | leaf f0 g1 g2=>
   obtain⟨e1,e2⟩:=List.append_inj' e rfl
   cases e2
   rw [ih f0 e1,h2.uniq hp h1 g2]
theorem Found.fn {p:Int}{N:Nat}(hp:p∈cm):∀{n:Nat} {a:Int} {e:Nat} {s L L':List Int},Found p N n a e s L→Found p N n a e s L'→L=L'
 | 0,_,_,_,_,_,h,_=>h.elim
 | n+1,a,e,s,L,L',⟨c,hc,fl⟩,⟨c',hc',fl'⟩=>by
  have p2:=cy hp
  have ec:=hc'.uniq (by omega) hc
  subst ec
  exact FL.fn (rec:=Found p N n) hp (λ_ _ _ _ _ h h'=>Found.fn hp h h') fl fl' rfl
theorem iM.JW {p:Int}{f:List Int}{a u x y:Int}{d t:Nat}(hp:p∈cm)(h:da p f a d u)(hx:(x-a)%p^(d+1)=0)(hy:(y-a)%p^(d+1)=0)(hw:(aA f x-aA f y)%p^(t+d)=0):(x-y)%p^t=0:=by
 have p2:=cy hp
 have p2':2≤p:=by omega
 obtain⟨v,hv,_⟩:=h.near p2' hy
 obtain⟨R,e⟩:=vG y (x-y) f
 rw [show y+(x-y)=x by omega] at e
 have hxy:(x-y)%p^(d+1)=0:=by
  have:=dj hx hy
  rwa [show x-a-(y-a)=x-y by omega] at this
 obtain⟨k,ek⟩:=Int.dvd_of_emod_eq_zero hxy
 have hu:(v+p*k*R)%p≠0:=λz=>hv.jY.un (by
  rw [show v+p*k*R=v+p*(k*R) by grind,Int.add_mul_emod_self_left] at z
  exact z)
 have e2:aA f x-aA f y=p^d*((v+p*k*R)*(x-y)):=by
  rw [e,hv.jY.eq]
  have:(x-y)*(x-y)*R=p^d*(p*k*R*(x-y)):=by
   conv=>lhs;rw [Int.mul_assoc,ek]
   rw [Int.pow_succ]
   have:=ek
   rw [Int.pow_succ] at this
   generalize p^d=A at *
   rw [←this]
   grind
  generalize p^d=A at *
  grind
 rw [e2,vi p2' (by omega),Nat.add_sub_cancel] at hw
 exact (Cd hp hu _).mp hw
theorem iM.uniq {p:Int}{f:List Int}{a u x y:Int}{d t:Nat}(hp:p∈cm)(h:da p f a d u)(hx:iM p f a d t x)(hy:iM p f a d t y):x=y:=
 BZ ⟨hx.lo,hx.hi⟩ ⟨hy.lo,hy.hi⟩ (iM.JW hp h hx.near hy.near (dj hx.deep hy.deep))
end Dr
namespace L2
open PySem PySem.Spec PyProof.Rows
section
variable {X:Cx}
theorem cA:gC X (binaryOp .Mult) (rI IntMulOk λi j=>.int (i*j)):=Jg λ_ _ _ _ _ _ _ hc q=>mul_int q hc
def pe (_ j:Int):Prop:=0<j∧j.natAbs.log2<9000
theorem eD:gC X (binaryOp .FloorDiv) (rI pe λi j=>.int (i/j)):=Jg λi j _ _ _ _ _ hc q=>by
 have h1:(0:Int)<j:=hc.1
 exact floordiv_int (by omega) (by rw [Int.fdiv_eq_ediv_of_nonneg i (by omega)];exact q) (.inl (PyProof.noPylong_of_log2 hc.2))
end
noncomputable def yj (a c:Int)(n:Nat):It:=⟨λi _=>i<n,λi H x H'=>H'=H∧x = .int (a+i*c),λi _=>n≤i⟩
theorem Bo {P:Program}{w:World}{K:PySem.W.Frag}{tg:Expr}(it:Addr)(lo c:Int)(n:Nat):Turn P w K tg (yj lo c n) [it] it (λi h=>IsRangeIter h it (lo+(i:Nat)*c) ((n:Int)-(i:Nat)) c) where
 mem:=by simp
 obj:=λi h st b hb=>by
  have e:b=it:=by simpa using hb
  subst e
  exact⟨_,st,λv z=>by
   have z':Data.fields _=Data.cell v:=z
   cases z'⟩
 keep:=λi h h' st k=>k it (by simp) _ st
 item:=by
  intro X hP hw hK hc i pins s σ H E I hf st hg
  subst hP hw hK
  obtain⟨f0,f1,f2,f3,f4,f5⟩:=hf it (by simp)
  have W:=Walks.range (prog:=X.prog) (w:=X.w) (I.ok.hd hc) it lo c n
  refine W.item i s _ _ hg st λv h' tk hv st' kk=>?_
  obtain⟨t,rfl⟩:=hv
  have I1:Inv X pins σ H { s with heap:=h',toks:=tk }:=I.turned (λb o hb e=>kk b o (by simpa using hb) e) f0 f1 f3 f4 f5
  exact⟨_,rfl,u7 (s:={ s with heap:=h',toks:=tk }) (n:="range_iterator") st' rfl rfl (by decide) ⟨.int (lo+i*c),H,I1,⟨t,rfl⟩,⟨rfl,rfl⟩,st',λb hb=>(hf b hb).1⟩⟩
 done:=by
  intro X hP hw hK hc i pins s σ H E I hf st hg
  subst hP hw hK
  obtain⟨f0,f1,f2,f3,f4,f5⟩:=hf it (by simp)
  exact wpAny_pyNext_range_end (I.ok.hd hc) st (by have:n≤i:=hg;omega) λh' eb=>⟨rfl,I.turned (t':=s.toks) (λb o hb e=>eb b o hb e) f0 f1 f3 f4 f5⟩
 self:=λ_ _ _ _ _ st h=>wpAny_pyIter_rangeiter st h
section
variable {X:Cx}{tg:Expr}
noncomputable def turns (a b c:Int):Nat:=if a<b then ((b-a-1)/c+1).toNat else 0
theorem rangeSize_pos {a b c:Int}(hc:0<c):Builtin.Range.rangeSize a b c=((turns a b c:Nat):Int):=by
 unfold Builtin.Range.rangeSize turns
 rw [if_pos hc]
 split
 ·have:=Int.ediv_nonneg (show 0≤b-a-1 by omega) (show 0≤c by omega)
  omega
 ·rfl
theorem HR {a b c:Int}(ha:-(2^60)≤a)(ha':a<2^60)(hb:-(2^60)≤b)(hb':b<2^60)(hc:0<c)(hc':c<1000):Builtin.Range.small a b c=true:=by
 have h1:turns a b c<2^62:=by
  unfold turns
  split
  ·have:=Int.ediv_le_self (a:=b-a-1) c (by omega)
   omega
  ·decide
 have h2:((turns a b c:Nat):Int)*c≤2^61+2000:=by
  unfold turns
  split
  ·have h0:=Int.ediv_nonneg (show 0≤b-a-1 by omega) (show 0≤c by omega)
   rw [Int.toNat_of_nonneg (by omega),Int.add_mul,Int.one_mul]
   have:=Int.ediv_mul_le (b-a-1) (show c≠0 by omega)
   omega
  ·simp
 unfold Builtin.Range.small
 rw [rangeSize_pos hc]
 simp only [Builtin.Range.rangeFitsLong,Bool.and_eq_true,Bool.or_eq_true,decide_eq_true_eq,beq_iff_eq,show c > 0 from hc,if_true]
 omega
theorem Ew {pins:List (Addr×Obj)}{σ:St}{H:Hp}{s:Shared}{R:It→Hp→Prop}{E:Value→Shared→Prop}{lo hi c:Int}{t u v:Tok}{tk:Nat}(I:Inv X pins σ H s)(h1:-(2^60)≤lo)(h2:lo<2^60)(h3:-(2^60)≤hi)(h4:hi<2^60)(h5:0<c)(h6:c<1000)
    (q:R (yj lo c (turns lo hi c)) H):wpAny (model X.prog X.w) X.A (pyIter (.ref s.heap.objs.size)) (Io X pins σ tg R) E { s with heap:=s.heap.push { cls:=.type "range",data:=.fields #[.int lo t,.int hi u,.int c v] },toks:=tk }:=by
  refine wpAny_pyIter_range (IsRange.new ..) (HR h1 h2 h3 h4 h5 h6) ?_
  have I1:Inv X pins σ H { s with heap:=s.heap.push { cls:=.type "range",data:=.fields #[.int lo t,.int hi u,.int c v] },toks:=tk }:=I.kept λb o e=>Heap.get?_push_of_some _ e
  refine⟨(s.heap.push { cls:=.type "range",data:=.fields #[.int lo t,.int hi u,.int c v] }).objs.size,[(s.heap.push { cls:=.type "range",data:=.fields #[.int lo t,.int hi u,.int c v] }).objs.size],_,_,H,rfl,
    I1.kept (t':=tk) λb o e=>Heap.get?_push_of_some _ e,Bo _ lo c (turns lo hi c),?_,λb hb=>?_,q⟩
  · have e1:lo+((0:Nat):Int)*c=lo:=by simp
    have e2:((turns lo hi c:Nat):Int)-((0:Nat):Int)=Builtin.Range.rangeSize lo hi c:=by rw [rangeSize_pos h5];simp
    show IsRangeIter _ _ (lo+((0:Nat):Int)*c) (((turns lo hi c:Nat):Int)-((0:Nat):Int)) c
    rw [e1,e2]
    exact Heap.get?_push_size _ rfl
  · have e:b=(s.heap.push { cls:=.type "range",data:=.fields #[.int lo t,.int hi u,.int c v] }).objs.size:=by simpa using hb
    subst e
    exact I1.pH (Nat.le_refl _) (I1.bb.fresh (Nat.le_refl _))
def CI (ta:TA):TI:=λσ H R=>ta σ H λvs H1=>∃i j c:Int,vs=[.int i,.int j,.int c]∧(-(2^60)≤i∧i<2^60∧-(2^60)≤j∧j<2^60∧0<c∧c<1000)∧R (yj i c (turns i j c)) H1
theorem Em {a:Expr}{es:List Expr}{ta:TA}{p pos:Pos}(hg:Gl X "range")(hm:X.mg "range"=none)(ha:PA X (a::es) ta)(he:starEach (a::es) X.env=(false,eval a X.env)::starEach es X.env:=by rfl)(hpl:(backTo pos (starEach es X.env)).any (·.1)=false:=by rfl) :
    PI X tg (.Call (.Name "range" p) (a::es) [] pos) (CI ta):=by
  intro pins s σ H R I h
  refine Call_ (kq I hg hm boot_range (PyProof.Rows.callWith_type1 (bU (ha pos pins s σ H _ I h) λus s1 ⟨vs,H1,I1,r1,q1⟩=>?_) he hpl))
  obtain⟨i,j,c,e,⟨q1,q2,q3,q4,q5,q6⟩,q⟩:=q1
  subst e
  cases r1 with
  | cons r rr=>
    cases rr with
    | cons r' rr=>
      cases rr with
      | cons r'' rr=>
        cases rr
        obtain⟨t,rfl⟩:=r
        obtain⟨t',rfl⟩:=r'
        obtain⟨t'',rfl⟩:=r''
        exact call_range_3 (by omega) (Ew I1 q1 q2 q3 q4 q5 q6 q) (.inl (PyProof.noPylong_small (by omega)))
end
theorem CC {lo c:Int}{n:Nat}{g:TG}{tb:TS}{D:Ends}{σ:St}{H:Hp}(Pv:Nat→St→Hp→Prop)(h0:Pv 0 σ H)
    (hs:∀i σ H,i<n→Pv i σ H→g (.int (lo+i*c)) σ H λσ2 H2=>tb { D with nx:=Pv (i+1),ct:=Pv (i+1),bk:=D.nx } σ2 H2) (hd:∀σ H,Pv n σ H→D.nx σ H) :
    ∃W:Nat→Nat→St→Hp→Prop,(∃m,W 0 m σ H)∧∀i m σ H,W i m σ H →
      ((yj lo c n).stop i H∧D.nx σ H)∨((yj lo c n).go i H∧∃N:St→Hp→Prop,(∀σ' H',N σ' H'→∃m',m'<m∧W (i+1) m' σ' H')∧∀x H',(yj lo c n).pd i H x H'→g x σ H' λσ2 H2=>tb { D with nx:=N,ct:=N,bk:=D.nx } σ2 H2):=by
  refine⟨λi m σ H=>m=n-i∧i≤n∧Pv i σ H,⟨n,by simp,Nat.zero_le _,h0⟩,?_⟩
  rintro i m σ H ⟨rfl,hi,p⟩
  by_cases hlt:i<n
  · refine .inr ⟨hlt,Pv (i+1),λσ' H' p'=>⟨n-(i+1),by omega,rfl,hlt,p'⟩,λx H' y=>?_⟩
    obtain⟨e,y⟩:=y
    subst e y
    exact hs i σ _ hlt p
  · have e:i=n:=by omega
    subst e
    exact .inl ⟨Nat.le_refl _,hd σ H p⟩
noncomputable def vQ:V→Value
 | .ty n=>.type n
 | .ref a=>.ref a
 | _=>.none
noncomputable def sx:V→Bool
 | .ty _=>true
 | .ref _=>true
 | _=>false
section
variable {X:Cx}
theorem AS:fz X (.builtin "isinstance") (λxs H Q=>∃x y t b,xs=[x,y]∧sx y=true∧kM X.K H x t∧PySem.W.kitOne X.K t (vQ y)=some b∧Q (.bl b) H):=by
 intro pins s σ H xs us Q I r h
 obtain⟨x,y,t,b,rfl,hy,ty,e,q⟩:=h
 obtain⟨u,w',rfl,rx,ry⟩:=vals2 r
 have ec:w'=vQ y:=by
  cases y<;>first
   | (simp [sx] at hy;done)
   | exact ry
 subst ec
 exact DY I rx ty e λtk=>⟨.bl b,H,I.tok tk,rfl,q⟩
mutual
inductive og (K:PySem.W.Frag)(H:Hp):V→PyData→Prop
 | cU:og K H .cU .none
 | bl (b:Bool):og K H (.bl b) (.bool b)
 | int (i:Int):og K H (.int i) (.int i)
 | str (x:Str):og K H (.str x) (.str x)
 | lst {a:Addr} {xs:List V} {ds:List PyData}:az K H a xs→ia K H xs ds→og K H (.ref a) (.list ds)
 | tup {a:Addr} {xs:List V} {ds:List PyData}:dC K H a xs→ia K H xs ds→og K H (.ref a) (.tuple ds)
inductive ia (K:PySem.W.Frag)(H:Hp):List V→List PyData→Prop
 | nil:ia K H [] []
 | cons {x:V} {d:PyData} {xs:List V} {ds:List PyData}:og K H x d→ia K H xs ds→ia K H (x::xs) (d::ds)
end
variable {pins:List (Addr×Obj)}{σ:St}{H:Hp}{s:Shared}
mutual
theorem nz (I:Inv X pins σ H s):∀{x:V} {d:PyData} {u:Value},og X.K H x d→RelV x u→∃as,Reads s.heap u d as
 | _,_,_,.cU,r=>by cases r;exact⟨_,.none⟩
 | _,_,_,.bl b,r=>by cases r;exact⟨_,.bool b⟩
 | _,_,_,.int i,r=>by obtain⟨t,rfl⟩:=r;exact⟨_,.int i t⟩
 | _,_,_,.str x,r=>by obtain⟨t,rfl⟩:=r;exact⟨_,.str x t⟩
 | _,_,_,.lst h q,r=>by
  cases r
  obtain⟨its,rv,pl,_⟩:=I.list h
  obtain⟨o,ho,hc,n,hd⟩:=pl.isList
  obtain⟨as,ra⟩:=ou I q rv
  exact⟨_,.list ho hc hd (by simpa using ra)⟩
 | _,_,_,.tup h q,r=>by
  cases r
  obtain⟨its,rv,pl,_⟩:=I.tuple h
  obtain⟨o,ho,hc,n,hd⟩:=pl
  obtain⟨as,ra⟩:=ou I q rv
  exact⟨_,.tuple ho hc hd (by simpa using ra)⟩
theorem ou (I:Inv X pins σ H s):∀{xs:List V} {ds:List PyData} {us:List Value},ia X.K H xs ds→Vals xs us→∃as,ReadsAll s.heap us ds as
 | _,_,_,.nil,r=>by cases r;exact⟨_,.nil⟩
 | _,_,_,.cons h q,r=>by
  cases r with
  | cons r rr=>
   obtain⟨as,ra⟩:=nz I h r
   obtain⟨bs,rb⟩:=ou I q rr
   exact⟨_,.cons ra rb⟩
end
def zM (K:PySem.W.Frag)(neg:Bool):R2:=λx y H Q=>∃d e,og K H x d∧og K H y e∧SeqAt.shaped d=true∧SeqAt.shaped e=true∧Q (.bl (if neg then !PyData.eqv d e else PyData.eqv d e)) H
theorem Jj (hu:X.A.units+64<cLine):gC X (compareOp .Eq) (zM X.K false):=by
 intro pins s σ H x y v u Q I rx ry h
 obtain⟨d,e,hd,he,sd,se,q⟩:=h
 obtain⟨as,ra⟩:=nz I hd rx
 obtain⟨bs,rb⟩:=nz I he ry
 exact eq_dataH ra rb sd se hu (cF I q rfl)
theorem Jk (hu:X.A.units+64<cLine):gC X (compareOp .NotEq) (zM X.K true):=by
 intro pins s σ H x y v u Q I rx ry h
 obtain⟨d,e,hd,he,sd,se,q⟩:=h
 obtain⟨as,ra⟩:=nz I hd rx
 obtain⟨bs,rb⟩:=nz I he ry
 exact ne_dataH ra rb sd se hu (cF I q rfl)
end
end L2
namespace Att
open PySem PySem.W PySem.Calls PyProof.Rows
theorem AQ {ns:List Int}(h:WData.layableAll [WData.list (ns.map WData.int)]=true):∀n,n∈ns→Builtin.Int.intBits n≤2^20:=λn hn=>by
 have h1:=layableW_arg h _ (List.mem_singleton.mpr rfl)
 have h2:=layableW_item h1 (.int n) (List.mem_map.mpr ⟨n,hn,rfl⟩)
 have h3:=(layableW_iff.mp h2).2.2
 simpa only [WData.weight,Builtin.Int.intBits] using h3
theorem yq {l:OpenLaw}{n:Nat}{q:Program}{loose:List Str}{XP:(Str→Option Value)→Heap→Prop}{YP:World→Heap→Prop}{d:DefRec}
    (hn:l.most=some n) (hdf:d.params.defaults=[])
    (call:∀(w:World) (s₀ s₁:Shared) (mg mb:Str→Option Value) (fa:Addr) (o:Obj) (pm cd doc:Value) (a:Addr) (vs:List Value) (ns:List Int),
      Ground q loose [] XP w s₀ mg mb s₁.heap→YP w s₁.heap →
      s₁.heap.get? fa=some o→o.data = .func (docDef d.name d.params d.body d.scope pm cd doc)→s₁.heap.CodeRec cd d.name→mg d.name=some (.ref fa) →
      s₁.heap.get? a=some { cls:=.type "list",data:=.seq vs.toArray }→IntsAre vs ns→ns.length≤n→(∀n,n∈ns→Builtin.Int.intBits n≤2^20)→s₁.gens=#[] →
      codeAny (model l.prog w) callerA (.call (.ref fa) ⟨[.ref a],[]⟩) (λr s'=>r = .ok (.ret (.bool true))∧OldK s₁.heap s'.heap∧s'.os=s₁.os∧AllBare s'.gens) s₁) :
    WalkO q loose XP YP l.row.toRowW d [] (λf vs=>PySem.call f vs):=by
  intro w s₀ s₁ mg mb G Y fa o pm cd doc dV kV ho hd hcd hD hmg hg args vals as hpre hlay hrd hwl hlo
  obtain rfl:dV = .none:=Dflts.none hD hdf
  obtain rfl:kV = .none:=Dflts.noKw hD
  obtain⟨a,vs,ns,rfl,rfl,hobj,hints,hlen⟩:=xj hn hpre hwl
  refine enter_call (codeAny_mono (call w s₀ s₁ mg mb fa o pm cd doc a vs ns G Y ho (fd_plain hd) hcd hmg hobj hints hlen (AQ hlay) hg) λr s' hq=>?_)
  obtain⟨rfl,h2,h3,h4⟩:=hq
  exact⟨.inl ⟨.bool true,.bool true,[],rfl,λ_=>rfl,.bool true,xh l _,λ_=>⟨List.Pairwise.nil,λ_ hm=>(nomatch hm)⟩⟩,h2,h3,h4⟩
end Att
namespace L2
open PySem PySem.Spec PyProof.Rows
def C3 (K:PySem.W.Frag):Sp:=λvs H Q _=>∃(a:Addr) (ns:List Int),vs=[.ref a]∧az K H a (ns.map V.int)∧ns.length≤63∧(∀n,n∈ns→Builtin.Int.intBits n≤2^20)∧∀H',Q (.bl true) H'
theorem KL {l:PySem.W.OpenLaw}{k:Nat}{q:Program}{loose:List Str}{XP:(Str→Option Value)→Heap→Prop}{YP:World→Heap→Prop}{d:DefRec}{K:Params→PySem.W.Frag}{CX:World→jy}
    (hn:l.most=some 63) (hdf:d.params.defaults=[]) (hr:en k callerA)
    (hY:∀(w:World) (h:Heap),YP w h→(K w.params).In h)
    (hCX:∀(w:World) (H:Hp) (s:Shared) (e:Value) (s':Shared),CX w [] H s (λ_ _ _=>False) e s'→False)
    (F:∀(w:World) (mg:Str→Option Value) (fa:Addr) (h:Heap),(K w.params).In h→h.Ns mainGlobals mg→mg d.name=some (.ref fa) →
      ∃fd:FuncData,(∀(s:Shared) (u:Value),BindsTo s fd ⟨[u],[]⟩ [("script",u)]) ∧
        ∀base:Heap,(K w.params).In base→base.Ns mainGlobals mg→bc l.prog w (K w.params) mg base (CX w) k fa fd ["script"] (C3 (K w.params))) :
    PySem.W.WalkO q loose XP YP l.row.toRowW d [] (λf vs=>PySem.call f vs):=by
  refine Att.yq hn hdf λw s₀ s₁ mg mb fa o pm cd doc a vs ns G Y ho hd hcd hmg hobj hints hlen hbits hg=>?_
  have KX:=hY w _ Y
  obtain⟨fd,hb,hF⟩:=F w mg fa _ KX G.T.g hmg
  exact y7 KX G.T.g G.T.b G.T.builtins G.T.nolimit hg hobj hints (Nat.le_trans hlen (by decide)) hr hF hb (λH hO hS=>⟨a,ns,rfl,hS,hlen,hbits,λ_=>rfl⟩) λH e s'=>hCX w H s₁ e s'
theorem adr {a b:Addr}(h:@Ne Nat a b):a≠b:=h
theorem ltN {h:Heap}{b:Addr}{o:Obj}(e:h.get? b=some o):@LT.lt Nat instLTNat b h.objs.size:=Heap.lt_size e
def kK (cells:List (Str×Addr)):List (Str×Addr)→Prop
 | []=>True
 | y::r=>cells.lookup y.1=some y.2∧kK cells r
theorem kK.get {cells:List (Str×Addr)}:∀{cl:List (Str×Addr)},kK cells cl→∀{x:Str} {c:Addr},cl.lookup x=some c→cells.lookup x=some c
 | (y,d)::r,⟨h,hr⟩,x,c,e=>by
  by_cases q:x=y
  ·subst q
   simp only [List.lookup_cons,beq_self_eq_true] at e
   cases e
   exact h
  ·have q':(x == y)=false:=by simpa using q
   simp only [List.lookup_cons,q'] at e
   exact kK.get hr e
def jG (X:Cx)(sc:Scope)(cl:List (Str×Addr)):List Nat→List Str→Prop
 | [],[]=>True
 | j::js,x::xs=>X.N[j]?=some x∧X.env.scope.names.lookup x=some .cell∧sc.names.lookup x=some .cell∧(cl.lookup x).isSome=true∧jG X sc cl js xs
 | _,_=>False
noncomputable def cg (caps:List Nat)(σ:St):St:=caps.map λj=>(σ[j]?).getD none
noncomputable def dc (X:Cx)(N:List Str)(scope:Scope)(cl:List (Str×Addr))(C:Addr)(s:Shared)(H:Hp)(fp:List Addr):Cx where
 prog:=X.prog
 w:=X.w
 K:=X.K
 mg:=X.mg
 base:=X.base
 A:=X.A
 N:=N
 s₀:=s
 H₀:=H
 env:=compEnvC scope cl C X.env
 outer:=X.stack
 stack:=X.stack
 ex:=fp
 fn:=λ_=>false
 calm:=X.calm
 pn:=[]
 xe:=λ_ _=>False
theorem mem_of_lookup {α:Type}{x:Str}{k:α}:∀{l:List (Str×α)},l.lookup x=some k→(x,k)∈l
 | (y,j)::r,e=>by
  by_cases q:x=y
  ·subst q
   simp only [List.lookup_cons,beq_self_eq_true] at e
   cases e
   exact .head _
  ·have q':(x == y)=false:=by simpa using q
   simp only [List.lookup_cons,q'] at e
   exact .tail _ (mem_of_lookup e)
section
variable {X:Cx}{pins:List (Addr×Obj)}{σ:St}{H:Hp}{s:Shared}{N:List Str}{scope:Scope}{cl:List (Str×Addr)}{C:Addr}{fp:List Addr}{caps:List Nat}{xs:List Str}
theorem BD (I:Inv X pins σ H s)(hcl:kK X.env.cells cl)(hk:scope.kind = .function)(hfp:∀b∈fp,gF X pins H b)(hlt:∀b∈fp,b<s.heap.objs.size)
    (hhas:((relabel scope X.env).names.all λy=>!(y.2 == .cell || y.2 == .free) || (cl.lookup y.1).isSome)=true) (hC:s.heap.objs.size≤C):(dc X N scope cl C s H fp).Ok where
  mod:=I.ok.mod
  kind:=hk
  glob:=I.ok.glob
  blt:=I.ok.blt
  above:=hC
  inj:=λx y c h1 h2=>I.ok.inj x y c (hcl.get h1) (hcl.get h2)
  has:=λx h=>by
    have key:∀k:NameKind,(k = .cell∨k = .free)→(relabel scope X.env).names.lookup x=some k→∃c,cl.lookup x=some c:=λk hk e=>by
      have h1:=List.all_eq_true.mp hhas _ (mem_of_lookup e)
      have h2:(cl.lookup x).isSome=true:=by
        rcases hk with rfl|rfl<;>simpa using h1
      exact Option.isSome_iff_exists.mp h2
    rcases h with h|h
    · exact key _ (.inl rfl) h
    · exact key _ (.inr rfl) h
  tL:=λx c h=>by cases h
  hd:=I.ok.hd
  frames:=I.ok.frames
  vD:=.inl rfl
  yL:=λb hb=>⟨λz=>by
      have h1:@LT.lt Nat instLTNat b s.heap.objs.size:=hlt b hb
      have z':@Eq Nat b C:=z
      have hC':@LE.le Nat _ s.heap.objs.size C:=hC
      omega,λx c e=>(hfp b hb).2.2.2.2.1 x c (hcl.get e)⟩
  bs:=I.bs
  nM:=Nat.le_trans I.ok.nM I.sz
  oq:=λb o e hb=>by
    rcases (hfp b hb).2.2.2.1 with z|z
    · exact I.ok.oq b o e z
    · have h1:@LT.lt Nat _ b X.base.objs.size:=Heap.lt_size e
      have h2:=I.ok.nM
      have z':@LE.le Nat _ X.s₀.heap.objs.size b:=z
      omega
  pF:=λb hb z=>by
    have h1:=I.nE b z
    rcases List.mem_cons.mp h1 with q|q
    · exact (hfp b hb).2.1 q
    · exact (hfp b hb).2.2.1 q
  i4:=I.stack
  qo:=I.pb
theorem vP:∀{caps:List Nat} {xs:List Str},jG X (relabel scope X.env) cl caps xs→∀{i:Nat} {x:Str} {v:V},xs[i]?=some x→(cg caps σ)[i]?=some (some v) →
    ∃j:Nat,X.N[j]?=some x∧σ[j]?=some (some v)∧X.env.scope.names.lookup x=some .cell∧(relabel scope X.env).names.lookup x=some .cell∧∃c,cl.lookup x=some c
  | [],[],_,i,x,v,h,_=>by simp at h
  | j::js,y::ys,⟨h1,h2,h3,h4,hr⟩,0,x,v,h,e=>by
    simp only [List.getElem?_cons_zero,Option.some.injEq] at h
    subst h
    have e':(σ[j]?).getD none=some v:=by simpa [cg] using e
    refine⟨j,h1,?_,h2,h3,Option.isSome_iff_exists.mp h4⟩
    cases q:σ[j]? with
    | none=>rw [q] at e';cases e'
    | some o=>rw [q] at e';exact congrArg some e'
  | j::js,y::ys,⟨_,_,_,_,hr⟩,i+1,x,v,h,e=>vP hr (by simpa using h) (by simpa [cg] using e)
theorem Co (I:Inv X pins σ H s)(hcl:kK X.env.cells cl)(hk:scope.kind = .function)(hfp:∀b∈fp,gF X pins H b)(hlt:∀b∈fp,b<s.heap.objs.size)
    (hhas:((relabel scope X.env).names.all λy=>!(y.2 == .cell || y.2 == .free) || (cl.lookup y.1).isSome)=true) (hC:s.heap.objs.size≤C)
    (hcap:jG X (relabel scope X.env) cl caps xs) (hlen:caps.length=xs.length) {x:Str} {h₁:Heap} {t:Nat} {m:Str→Option Value} (hn:h₁.Ns C m) (kp:∀b o,s.heap.get? b=some o→h₁.get? b=some o) :
    Inv (dc X (x::xs) scope cl C s H fp) [] (none::cg caps σ) H { s with heap:=h₁,toks:=t } where
  ok:=BD I hcl hk hfp hlt hhas hC
  os:=rfl
  bare:=I.bare
  base:=Un.kept kp
  loc:=by
    refine⟨m,hn,λi y v h1 h2 _=>?_⟩
    cases i with
    | zero=>simp at h2
    | succ i=>
      obtain⟨j,e1,e2,e3,e4,c,e5⟩:=vP (X:=X) (scope:=scope) hcap (i:=i) (by simpa [dc] using h1) (by simpa using h2)
      obtain⟨m₀,_,hl⟩:=I.loc
      obtain⟨u,r,lk⟩:=hl j y v e1 e2 (.inr (.inl e3))
      refine⟨u,r,.inr ⟨.inl e4,c,e5,?_⟩⟩
      rcases lk with⟨z,_⟩|⟨_,c',q1,q2⟩
      · have z':X.env.scope.names.lookup y=some .local:=z
        rw [e3] at z'
        cases z'
      · rw [hcl.get e5] at q1
        cases q1
        obtain⟨o,ho,hd⟩:=q2
        exact⟨o,kp _ _ ho,hd⟩
  cell:=λy c e=>by
    obtain⟨v,o,ho,hd⟩:=I.cell y c (hcl.get e)
    exact⟨v,o,kp _ _ ho,hd⟩
  free:=I.bb.fresh hC
  gb:=λy c e=>I.gb y c (hcl.get e)
  pin:=λp hp=>by
    have hp':p∈([]:List (Addr×Obj)):=hp
    cases hp'
  bb:=I.bb.kept kp
  len:=by simp [dc,cg,hlen]
end
def wG (X:Cx)(ifs:List Expr)(t:TT):Prop:=
 ∀(pins:List (Addr×Obj)) (s:Shared) (σ:St) (H:Hp) (Q:Bool→Hp→Prop),Inv X pins σ H s→t σ H Q →
  wpAny (model X.prog X.w) X.A (forIn ifs true λc r=>if r=true then do let ok ←isTrue c X.env (eval c X.env);pure (ForInStep.yield ok) else pure (ForInStep.yield r)) (TP X pins σ Q) X.xe s
theorem dG {X:Cx}:wG X [] (λ_ H Q=>Q true H):=λ_ _ _ H _ I h=>wpAny_tests_nil ⟨H,I,h⟩
theorem wa {X:Cx}{c:Expr}{t:TT}(h:PT X c t):wG X [c] t:=λpins s σ H Q I q=>wpAny_tests_one (h pins s σ H Q I q)
def C6 (caps:List Nat)(wi:TI)(tt:TT)(te:TE):TE:=λσ H Q=>wi σ H λJ H1=>∃(n:Nat) (W:Nat→List V→Hp→Prop),n≤sizeLine∧W 0 [] H1∧∀i ys H2,W i ys H2 →
 (J.stop i H2∧∀p,H2 p=none→Q (.ref p) (upd H2 p (.lst ys))) ∨
 (J.go i H2∧i<n∧∀x H3,J.pd i H2 x H3→tt (some x::cg caps σ) H3 λb H4=>if b=true then te (some x::cg caps σ) H4 λv H5=>W (i+1) (ys++[v]) H5 else W (i+1) ys H4)
section
variable {prog:Program}{w:World}{A:Around}{R:Result→Shared→Prop}{s:Shared}
theorem wU {elt target iter:Expr}{ifs:List Expr}{scope:Scope}{pos:Pos}{it acc:Value}{env:Env}(I:Nat→Shared→Prop)
    (turn:∀n s,I n s→wpAny (model prog w) A (pyNext it) (λr s₁=>match r with
      | none=>R (.ok .next) s₁
      | some v=>wpAny (model prog w) A (letOwnedTupleGo target it v) (λ_ s₁=>wpAny (model prog w) A (assign target env v) (λ_ s₂=>
          wpAny (model prog w) A (forIn ifs true λc r=>if r=true then do let ok ←isTrue c env (eval c env);pure (ForInStep.yield ok) else pure (ForInStep.yield r)) (λok s₃=>
            if ok=true then wpAny (model prog w) A (eval elt env) (λx s₄=>
              wpAny (model prog w) A (call (.builtin "list.append") [acc,x]) (λ_ s₅=>∃m,m<n∧I m s₅) (λ_ _=>False) s₄) (λ_ _=>False) s₃
            else ∃m,m<n∧I m s₃) (λ_ _=>False) s₂) (λ_ _=>False) s₁) (λ_ _=>False) s₁) (λ_ _=>False) s)
    (n:Nat) (h:I n s) :
    codeAny (model prog w) A (.compLoop (.ListComp elt [⟨target,iter,ifs,0⟩] scope pos) 0 it acc env) R s:=by
  refine codeAny_loop rfl I (λn s hI=>?_) n h
  show wpAny _ A ((compTurn (.ListComp elt [⟨target,iter,ifs,0⟩] scope pos) 0 it acc env).onRaise (λx=>do noteFrame x env;theTreesLotGoes x)) _ _ s
  refine wpAny_noted ?_
  rw [compTurn_list]
  refine wpAny_bind (wpAny_standAt (wpAny_bind (wpAny_mono (turn n s hI) (λr s₁ h₁=>?_) λ_ _ h'=>h'.elim)))
  cases r with
  | none=>exact wpAny_pure h₁
  | some v=>
    refine wpAny_bind (wpAny_mono h₁ (λ_ s₁ h₁=>?_) λ_ _ h'=>h'.elim)
    refine wpAny_bind (wpAny_mono h₁ (λ_ s₂ h₂=>wpAny_bind (wpAny_mono h₂ (λok s₃ h₃=>?_) λ_ _ h'=>h'.elim)) λ_ _ h'=>h'.elim)
    cases ok with
    | false=>exact wpAny_pure ⟨rfl,h₃⟩
    | true=>
      exact wpAny_bind (wpAny_bind (wpAny_mono h₃ (λx s₄ h₄=>wpAny_bind (wpAny_mono h₄ (λ_ s₅ h₅=>wpAny_pure (wpAny_pure ⟨rfl,h₅⟩)) λ_ _ h'=>h'.elim)) λ_ _ h'=>h'.elim))
end
def Loose (X:Cx)(pins:List (Addr×Obj))(H:Hp)(C:Addr):Prop:=
 H C=none∧C≠X.env.locals∧X.s₀.heap.objs.size≤C∧(∀x c,X.env.cells.lookup x=some c→c≠C)∧∀p∈X.pn++pins,p.1≠C
theorem Inv.letGo {X:Cx}{pins:List (Addr×Obj)}{σ:St}{H:Hp}{s:Shared}{C:Addr}{h':Heap}(I:Inv X pins σ H s)(l:Loose X pins H C)(k:Heap.SameBut C s.heap h'):Inv X pins σ H { s with heap:=h' }:=
 I.turned (it:=C) (t':=s.toks) (λb o hb e=>k.extBut b o hb e) l.1 l.2.1 (.inr l.2.2.1) l.2.2.2.1 l.2.2.2.2
section
variable {X:Cx}
theorem uY {elt iter:Expr}{x:Str}{px pos:Pos}{ifs:List Expr}{scope:Scope}{cl:List (Str×Addr)}{caps:List Nat}{xs:List Str}{tt:TT}{te:TE}
    (hc:X.calm=true) (hcl:kK X.env.cells cl) (hcap:jG X (relabel scope X.env) cl caps xs) (hlen:caps.length=xs.length)
    (hkind:scope.kind = .function) (hcell:∀y∈scope.names,y.2≠.cell)
    (hhas:((relabel scope X.env).names.all λy=>!(y.2 == .cell || y.2 == .free) || (cl.lookup y.1).isSome)=true)
    (hx:(relabel scope X.env).names.lookup x=some .local) (hN:(x::xs).Nodup)
    (ht:∀C s H fp,wG (dc X (x::xs) scope cl C s H fp) ifs tt) (he:∀C s H fp,PE (dc X (x::xs) scope cl C s H fp) elt te)
    {pins:List (Addr×Obj)} {σ:St} {H1:Hp} {s2:Shared} {it:Addr} {fp:List Addr} {tn:Nat→Heap→Prop} {J:It} {Q:VK}
    (I2:Inv X pins σ H1 s2) (T:Turn X.prog X.w X.K (.Name x px) J fp it tn) (st0:tn 0 s2.heap) (hfp:∀b∈fp,gF X pins H1 b)
    (hq:∃(n:Nat) (W:Nat→List V→Hp→Prop),n≤sizeLine∧W 0 [] H1∧∀i ys H2,W i ys H2 →
      (J.stop i H2∧∀p,H2 p=none→Q (.ref p) (upd H2 p (.lst ys))) ∨
      (J.go i H2∧i<n∧∀x H3,J.pd i H2 x H3→tt (some x::cg caps σ) H3 λb H4=>if b=true then te (some x::cg caps σ) H4 λv H5=>W (i+1) (ys++[v]) H5 else W (i+1) ys H4))
    {RR:Value→Addr→Result→Shared→Prop}
    (hRR:∀s1 D C m H',Inv X pins σ H' s1→s1.heap.Ns C m→Loose X pins H' C→Q (.ref D) H'→RR (.ref D) C (.ok .next) s1) :
    wpAny (model X.prog X.w) X.A (newList []) (λacc s₃=>wpAny (model X.prog X.w) X.A (newFunctionEnv scope X.env.globals cl [] X.env.qual none .none (some X.env)) (λcenv s₄=>
      codeAny (model X.prog X.w) X.A (.compStart (.ListComp elt [⟨.Name x px,iter,ifs,0⟩] scope pos) 0 (.ref it) acc { cenv with scope:=relabel scope X.env }) (RR acc cenv.locals) s₄) X.xe s₃) X.xe s2:=by
  obtain⟨n,W,hn,w0,hW⟩:=hq
  have hlt:∀b∈fp,b<s2.heap.objs.size:=λb hb=>by
    obtain⟨o,ho,_⟩:=T.obj 0 s2.heap st0 b hb
    exact Heap.lt_size ho
  refine wpAny_newObj_type (wpAny_newFunctionEnv hcell (by intro y hy;simp at hy) (λh₁ hns₁ hsb₁=>?_) hkind)
  dsimp only at hns₁ hsb₁ ⊢
  generalize hH2:s2.heap.push { cls:=.type "list",dict:=none,data:=.seq ([]:List Value).toArray }=G at hns₁ hsb₁ ⊢
  have hC:G.objs.size=s2.heap.objs.size+1:=by rw [←hH2,Heap.size_push]
  have hDC:s2.heap.objs.size≠G.objs.size:=by ((try clear hH2 hc hhas hkind hlen hn hx);omega)
  have old:∀b o,s2.heap.get? b=some o→h₁.get? b=some o:=λb o e=>hsb₁.extBut b o (adr (by have h1:@LT.lt Nat _ b s2.heap.objs.size:=Heap.lt_size e;((try clear e hDC hH2 hc hhas hkind hlen hn hx);omega))) (Heap.get?_push_of_some _ (hH2▸Heap.get?_push_of_some _ e))
  have hacc:h₁.get? s2.heap.objs.size=some { cls:=.type "list",dict:=none,data:=.seq ([]:List Value).toArray }:=
    hsb₁.extBut _ _ hDC (Heap.get?_push_of_some _ (hH2▸Heap.get?_push_size _ rfl))
  have I3:Inv (dc X (x::xs) scope cl G.objs.size s2 H1 fp) [] (none::cg caps σ) H1 { s2 with heap:=h₁,toks:=s2.toks+([]:List (Str×Value)).length }:=
    Co I2 hcl hkind hfp hlt hhas (by (try clear hDC hH2 hacc hc hhas hkind hlen hn hx);omega) hcap hlen hns₁ old
  have st1:tn 0 h₁:=T.keep 0 _ _ st0 λb hb o e=>old b o e
  have fpX:∀{pins':List (Addr×Obj)} {H':Hp} (b:Addr),b∈fp→H' b=none→(∀p∈pins',p.1≠b)→gF (dc X (x::xs) scope cl G.objs.size s2 H1 fp) pins' H' b:=λb hb hh hp=>
    ⟨hh,λz=>by have h1:@LT.lt Nat _ b s2.heap.objs.size:=hlt b hb;have z':@Eq Nat b G.objs.size:=z;((try clear hDC hH2 hacc hc hh hhas hkind hlen hn hx z);omega),λz=>by
      rcases List.mem_cons.mp (I2.nE b z) with q|q
      · exact (hfp b hb).2.1 q
      · exact (hfp b hb).2.2.1 q,.inl hb,λy c e=>(hfp b hb).2.2.2.2.1 y c (hcl.get e),λp hp'=>hp p hp'⟩
  let XC:=dc X (x::xs) scope cl G.objs.size s2 H1 fp
  have loop:∀s3:Shared,s3={ s2 with heap:=h₁,toks:=s2.toks+([]:List (Str×Value)).length } →
      codeAny (model X.prog X.w) X.A (.compLoop (.ListComp elt [⟨.Name x px,iter,ifs,0⟩] scope pos) 0 (.ref it) (.ref s2.heap.objs.size) (compEnvC scope cl G.objs.size X.env))
        (RR (.ref s2.heap.objs.size) G.objs.size) s3:=by
    rintro s3 rfl
    refine wU (λm s'=>∃(i:Nat) (ys:List V) (Hn:Hp) (its:List Value) (k:Nat) (v0:Option V),m=n+1-i∧i≤n∧ys.length≤i∧W i ys Hn∧Vals ys its∧tn i s'.heap∧(∀b∈fp,Hn b=none) ∧
      Inv XC [(s2.heap.objs.size,{ cls:=.type "list",data:=.seq its.toArray k })] (v0::cg caps σ) Hn s') ?_ (n+1) ?_
    · rintro m s' ⟨i,ys,Hn,its,k,v0,rfl,hin,hyl,w,rv,st,hfn,J'⟩
      have pD:=J'.pin _ (List.mem_append_right _ (List.mem_singleton.mpr rfl))
      have neD:∀b∈fp,∀p∈[((s2.heap.objs.size,({ cls:=.type "list",data:=.seq its.toArray k }:Obj)))],p.1≠b:=λb hb p hp z=>by
        have h1:@LT.lt Nat instLTNat b s2.heap.objs.size:=hlt b hb
        rw [List.mem_singleton.mp hp] at z
        have z':@Eq Nat s2.heap.objs.size b:=z
        ((try clear hC hDC hH2 hacc hc hhas hin hkind hlen hn hx hyl pD z');omega)
      rcases hW i ys Hn w with⟨hstop,fin⟩|⟨hgo,hi',hgo'⟩
      · 
        refine wpAny_mono (T.done XC rfl rfl rfl hc i _ s' _ Hn (λ_ _=>False) J' (λb hb=>fpX b hb (hfn b hb) (neD b hb)) st hstop) (λr s1 hr=>?_) λ_ _ z=>z
        obtain⟨rfl,J1⟩:=hr
        obtain⟨mC,hnC,_⟩:=J1.loc
        have pD1:=J1.pin _ (List.mem_append_right _ (List.mem_singleton.mpr rfl))
        have hD':s1.heap.get? s2.heap.objs.size=some { cls:=.type "list",data:=.seq its.toArray k }:=pD1.1
        have hHD:Hn s2.heap.objs.size=none:=pD1.2.1
        have hHC:Hn G.objs.size=none:=J1.free
        have un:Un (dR X.stack) fp H1 (upd Hn s2.heap.objs.size (.lst ys)) s2.heap s1.heap:=by
          have u:=J1.base
          have lt2:∀b o,s2.heap.get? b=some o→b≠G.objs.size∧b≠s2.heap.objs.size:=λb o e=>by
            have h1:=ltN e
            exact⟨adr (by (try clear e hD' hDC hH2 hHC hHD hacc hc hhas hin hkind hlen hn hx hyl pD pD1);omega),adr (by (try clear e hC hD' hDC hH2 hHC hHD hacc hc hhas hin hkind hlen hn hx hyl pD pD1);omega)⟩
          refine⟨u.keep,u.slot,λb o e n1 n2=>?_,u.there,λb zs e=>?_,λb o u' e=>?_,λb ps e=>?_⟩
          · rw [aI (lt2 b o e).2]
            exact u.free b o e n1 n2
          · have q:=u.jF b zs e
            rw [aI (λz=>by rw [z,hHD] at q;cases q)]
            exact q
          · have q:=u.i3 b o u' e
            rw [aI (λz=>by rw [z,hHD] at q;cases q)]
            exact q
          · obtain⟨more,q⟩:=u.jE b ps e
            refine⟨more,?_⟩
            rw [aI (λz=>by rw [z,hHD] at q;cases q)]
            exact q
        have bb:e7 X.prog X.w (upd Hn s2.heap.objs.size (.lst ys)) s1.heap:=λa o e=>by
          by_cases ha:a=s2.heap.objs.size
          · subst ha
            rw [aS] at e
            cases e
            exact⟨by (try clear hC hD' hDC hH2 hHC hHD hacc hc hhas hkind hlen hx pD pD1);omega,its,k,rv,hD'⟩
          · rw [aI ha] at e
            have q:cT X.prog X.w Hn s1.heap a o:=J1.bb a o e
            refine q.gB (λb u' hb e'=>e') (λb e'=>?_) λb zs e'=>?_
            · rw [aI (λz=>by rw [z,hHD] at e';cases e')];exact e'
            · rw [aI (λz=>by rw [z,hHD] at e';cases e')];exact e'
        have I4:Inv X pins σ (upd Hn s2.heap.objs.size (.lst ys)) s1:=
          I2.ya (ch:=fp) J1.os un bb J1.bare λb hb=>⟨(hfp b hb).2.2.2.1,(hfp b hb).2.1,(hfp b hb).2.2.2.2.1,(hfp b hb).2.2.2.2.2⟩
        refine hRR s1 _ _ mC _ I4 hnC ⟨by rw [aI (Ne.symm hDC)];exact hHC,λz=>?_,by have:=I2.sz;((try clear hD' hDC hH2 hHC hHD hacc hc hhas hin hkind hlen hn hx hyl pD pD1);omega),λy c e z=>?_,λp hp z=>?_⟩ (fin _ hHD)
        · have h1:@LT.lt Nat instLTNat X.env.locals s2.heap.objs.size:=I2.lt
          have z':@Eq Nat G.objs.size X.env.locals:=z
          ((try clear hD' hDC hH2 hHC hHD hacc hc hhas hin hkind hlen hn hx hyl pD pD1 z);omega)
        · obtain⟨v',o',ho',_⟩:=I2.cell y c e
          have h1:=ltN ho'
          have z':@Eq Nat c G.objs.size:=z
          ((try clear e hD' hDC hH2 hHC hHD hacc hc hhas hin hkind hlen hn ho' hx hyl pD pD1 z);omega)
        · have h1:=ltN (I2.pin p hp).1
          have z':@Eq Nat p.1 G.objs.size:=z
          ((try clear hD' hDC hH2 hHC hHD hacc hc hhas hin hkind hlen hn hx hyl pD pD1 z);omega)
      · 
        refine wpAny_mono (T.item XC rfl rfl rfl hc i _ s' _ Hn (λ_ _=>False) J' (λb hb=>fpX b hb (hfn b hb) (neD b hb)) st hgo) (λr s1 hr=>?_) λ_ _ z=>z
        obtain⟨u,rfl,hr⟩:=hr
        refine wpAny_mono hr (λ_ s2' h2=>?_) λ_ _ z=>z
        obtain⟨v,H3,J1,ru,hy,st1',hf3⟩:=h2
        refine wpAny_assign_Name ?_
        refine nZ (v:=v) J1 hN (i:=0) rfl (.inl hx) ru (λs4 J2 hsb=>?_) (.inr hx)
        have st4:tn (i+1) s4.heap:=by
          obtain⟨a,hsa,ha⟩:=hsb
          refine T.keep _ _ _ st1' λb hb o e=>hsa.extBut b o (λz=>?_) e
          rcases ha with ha|ha
          · have h1:@LT.lt Nat instLTNat b s2.heap.objs.size:=hlt b hb
            have ha':@Eq Nat a G.objs.size:=ha
            have z':@Eq Nat b a:=z
            ((try clear e hDC hH2 ha hacc hc hhas hi' hin hkind hlen hn hx hyl pD z);omega)
          · exact (hfp b hb).2.2.2.2.1 x a (hcl.get ha) z.symm
        have J2':Inv XC [(s2.heap.objs.size,{ cls:=.type "list",data:=.seq its.toArray k })] (some v::cg caps σ) H3 s4:=J2
        have ob4:∀b∈fp,∃o,s4.heap.get? b=some o∧∀v,o.data≠.cell v:=λb hb=>T.obj _ _ st4 b hb
        have J3:=J2'.pinned (λb hb=>fpX b hb (hf3 b hb) (neD b hb)) ob4
        have tnAt:∀{σ':St} {H':Hp} {s'':Shared},Inv XC ([(s2.heap.objs.size,({ cls:=.type "list",data:=.seq its.toArray k }:Obj))]++oX fp s4.heap) σ' H' s''→tn (i+1) s''.heap∧∀b∈fp,H' b=none:=λJ4=>
          ⟨T.keep _ _ _ st4 λb hb o e=>(J4.pin (b,o) (List.mem_append_right _ (List.mem_append_right _ (jd hb e)))).1,λb hb=>by
            obtain⟨o,e,_⟩:=ob4 b hb
            exact (J4.pin (b,o) (List.mem_append_right _ (List.mem_append_right _ (jd hb e)))).2.1⟩
        refine bU (ht _ _ _ _ _ s4 _ H3 _ J3 (hgo' v H3 hy)) λok s5 ⟨H4,J4,q4⟩=>?_
        cases ok with
        | false=>
          rw [if_neg (by simp)]
          have q4':W (i+1) ys H4:=q4
          obtain⟨a1,a2⟩:=tnAt J4
          exact⟨n+1-(i+1),by (try clear hC hDC hH2 hacc hc hhas hin hkind hlen hn hx hyl pD);omega,i+1,ys,H4,its,k,some v,rfl,by (try clear hC hDC hH2 hacc hc hhas hin hkind hlen hn hx hyl pD);omega,by (try clear hC hDC hH2 hacc hc hhas hi' hin hkind hlen hn hx pD);omega,q4',rv,a1,a2,J4.nG⟩
        | true=>
          rw [if_pos rfl]
          have q4':te (some v::cg caps σ) H4 λv H5=>W (i+1) (ys++[v]) H5:=q4
          refine bU (he _ _ _ _ _ s5 _ H4 _ J4 q4') λuv s6 ⟨y,H5,J5,ry,q5⟩=>?_
          obtain⟨a1,a2⟩:=tnAt J5
          have pD6:=J5.pin _ (List.mem_append_right _ (List.mem_append_left _ (List.mem_singleton.mpr rfl)))
          have hl6:=rv.length
          refine call_meets F.slot_list_append ⟨_,pD6.1,rfl⟩ F.entry_list_append (F.args_list_append_2 _ _) (PySem.list_append s2.heap.objs.size its.toArray k uv (by rw [List.size_toArray];((try clear hC hDC hH2 hacc hc hhas hin hkind hlen hx pD pD6);omega))) ⟨pD6.1,?_⟩
          have J6:Inv XC [] (some v::cg caps σ) H5 s6:=J5.j4 λp hp=>by cases hp
          have ne6:s2.heap.objs.size∉fp:=λz=>by have h1:@LT.lt Nat instLTNat s2.heap.objs.size s2.heap.objs.size:=hlt _ z;((try clear hC hDC hH2 hacc hc hhas hi' hin hkind hl6 hlen hn hx hyl pD pD6);omega)
          have J7:Inv XC [] (some v::cg caps σ) H5 { s6 with heap:=s6.heap.update s2.heap.objs.size (Obj.mapSeq λxs=>xs.push uv),toks:=s6.toks }:=
            J6.turned (it:=s2.heap.objs.size) (λb o hb e=>by rw [Heap.get?_update_other _ _ (Ne.symm hb)];exact e) pD6.2.1 (λz=>hDC z) (.inr (Nat.le_refl _)) (λy c e z=>by
              have e1:=I2.cell y c (hcl.get e)
              obtain⟨v',o',ho',_⟩:=e1
              have h1:=ltN ho'
              have z':@Eq Nat c s2.heap.objs.size:=z
              ((try clear e hC hDC hH2 hacc hc hhas hi' hin hkind hl6 hlen hn ho' hx hyl ne6 pD pD6 z);omega)) (λp hp=>by cases hp)
          refine⟨n+1-(i+1),by (try clear hC hDC hH2 hacc hc hhas hin hkind hl6 hlen hn hx hyl ne6 pD pD6);omega,i+1,ys++[y],H5,its++[uv],k+1,some v,rfl,by (try clear hC hDC hH2 hacc hc hhas hin hkind hl6 hlen hn hx hyl ne6 pD pD6);omega,by rw [List.length_append,List.length_singleton];((try clear hC hDC hH2 hacc hc hhas hi' hin hkind hlen hn hx ne6 pD pD6);omega),q5,rv.append (.cons ry .nil),?_,a2,?_⟩
          · refine T.keep _ _ _ a1 λb hb o e=>?_
            show (s6.heap.update s2.heap.objs.size _).get? b=some o
            rw [Heap.get?_update_other _ _ (λz=>ne6 (by rw [z];exact hb))]
            exact e
          · refine J7.j4 λp hp=>?_
            rw [List.mem_singleton.mp hp]
            refine⟨?_,pD6.2.1,λz=>hDC z,pD6.2.2.2.1,λv' z=>?_⟩
            · show (s6.heap.update s2.heap.objs.size _).get? s2.heap.objs.size=_
              rw [Heap.get?_update_self _ pD6.1 rfl]
              simp only [Obj.mapSeq,List.push_toArray]
              rw [if_neg (by simp)]
            · have z':Data.seq _ _=Data.cell v':=z
              cases z'
    · exact⟨0,[],H1,[],0,none,by (try clear hC hDC hH2 hacc hc hhas hkind hlen hn hx);omega,by (try clear hC hDC hH2 hacc hc hhas hkind hlen hn hx);omega,by simp,w0,.nil,st1,λb hb=>(hfp b hb).1,I3.j4 λp hp=>by
        rw [List.mem_singleton.mp hp]
        refine⟨hacc,I2.bb.fresh (Nat.le_refl _),λz=>hDC z,λz=>?_,λv' z=>?_⟩
        · have:=I2.pb _ z
          rcases List.mem_cons.mp (I2.nE _ z) with q|q
          · have h1:@LT.lt Nat instLTNat X.env.locals s2.heap.objs.size:=I2.lt
            have z':@Eq Nat s2.heap.objs.size X.env.locals:=q
            ((try clear hC hDC hH2 hacc hc hhas hkind hlen hn hx q this);omega)
          · exact I2.Fy (Nat.le_refl _) q
        · have z':Data.seq _ _=Data.cell v':=z
          cases z'⟩
  exact codeAny_compStart_list (loop _ rfl) (T.self X.A 0 _ _ _ st1 (loop _ rfl))
theorem eU {elt iter:Expr}{x:Str}{px pos:Pos}{ifs:List Expr}{scope:Scope}{cl:List (Str×Addr)}(caps:List Nat)(xs:List Str){wi:TI}{tt:TT}{te:TE}
    (hc:X.calm=true) (hclos:closureFor scope X.env=pure cl) (hcl:kK X.env.cells cl) (hcap:jG X (relabel scope X.env) cl caps xs) (hlen:caps.length=xs.length)
    (hkind:scope.kind = .function) (hcell:∀y∈scope.names,y.2≠.cell) (hnames:∀y∈scope.names,y.2 = .local→scope.names.lookup y.1=some .local)
    (hhas:((relabel scope X.env).names.all λy=>!(y.2 == .cell || y.2 == .free) || (cl.lookup y.1).isSome)=true)
    (hx:(relabel scope X.env).names.lookup x=some .local) (hN:(x::xs).Nodup)
    (hi:PI X (.Name x px) iter wi) (ht:∀C s H fp,wG (dc X (x::xs) scope cl C s H fp) ifs tt) (he:∀C s H fp,PE (dc X (x::xs) scope cl C s H fp) elt te)
    (hs:∀v,foldedSetIterable iter X.env v=pure v:=by intro _;rfl):PE X (.ListComp elt [⟨.Name x px,iter,ifs,0⟩] scope pos) (C6 caps wi tt te):=by
  intro pins s σ H Q I h
  rw [eval_ListComp]
  refine wpAny_comprehension_free (use:=none) rfl hs hclos hkind hnames (wpAny_mono (hi pins s σ H _ I h) (λv s1 h1=>wpAny_mono h1 (λitv s2 h2=>?_) λ_ _ e=>e) λ_ _ e=>e)
  obtain⟨it,fp,tn,J,H1,rfl,I2,T,st0,hfp,hq⟩:=h2
  refine uY (RR:=λacc C=>compPost (model X.prog X.w) X.A X.xe none (EP X pins σ Q) acc C) hc hcl hcap hlen hkind hcell hhas hx hN ht he I2 T st0 hfp hq ?_
  intro s1 D C m H' I4 hn l q
  exact⟨m,hn,λh' hsb=>⟨.ref D,H',I4.letGo l hsb,rfl,q⟩⟩
theorem BW {elt iter:Expr}{x y:Str}{px py pos spos:Pos}{ifs:List Expr}{scope:Scope}{cl:List (Str×Addr)}{k:Nat}(caps:List Nat)(xs:List Str){wi:TI}{tt:TT}{te:TE}
    (hsw:swapsWith (.ListComp elt [⟨.Name x px,iter,ifs,0⟩] scope pos) (some (.Name y py)) spos.line X.env=pure true)
    (hNX:X.N.Nodup) (hk:X.N[k]?=some y) (hy:X.env.scope.names.lookup y=some .local)
    (hc:X.calm=true) (hclos:closureFor scope X.env=pure cl) (hcl:kK X.env.cells cl) (hcap:jG X (relabel scope X.env) cl caps xs) (hlen:caps.length=xs.length)
    (hkind:scope.kind = .function) (hcell:∀y∈scope.names,y.2≠.cell) (hnames:∀y∈scope.names,y.2 = .local→scope.names.lookup y.1=some .local)
    (hhas:((relabel scope X.env).names.all λy=>!(y.2 == .cell || y.2 == .free) || (cl.lookup y.1).isSome)=true)
    (hx:(relabel scope X.env).names.lookup x=some .local) (hN:(x::xs).Nodup)
    (hi:PI X (.Name x px) iter wi) (ht:∀C s H fp,wG (dc X (x::xs) scope cl C s H fp) ifs tt) (he:∀C s H fp,PE (dc X (x::xs) scope cl C s H fp) elt te)
    (hs:∀v,foldedSetIterable iter X.env v=pure v:=by intro _;rfl):PS X (.Assign [.Name y py] (.ListComp elt [⟨.Name x px,iter,ifs,0⟩] scope pos) spos) (uz (C6 caps wi tt te) (fk k)):=by
  intro pins s σ H D I h
  rw [exec_Assign_Name_used _ _ _ _ hsw]
  refine wpAny_bind (wpAny_standAt (wpAny_bind ?_))
  show wpAny _ X.A (do let _ ←comprehension (.ListComp elt [⟨.Name x px,iter,ifs,0⟩] scope pos) scope X.env _ (newList []) false (eval iter X.env) (some (assign (.Name y py) X.env))) _ _ s
  refine wpAny_bind (wpAny_mono (wpAny_comprehension_free (use:=some (assign (.Name y py) X.env)) (Q:=λ_ s'=>SP X pins D .next s') rfl hs hclos hkind hnames
    (wpAny_mono (hi pins s σ H _ I h) (λxv s₁ h₁=>wpAny_mono h₁ (λitv s2 h2=>?_) λ_ _ e=>e) λ_ _ e=>e)) (λ_ s' hq=>wpAny_pure (wpAny_pure hq)) λ_ _ e=>e)
  obtain⟨it,fp,tn,J,H1,rfl,I2,T,st0,hfp,hq⟩:=h2
  refine uY (Q:=λv H1=>fk k v σ H1 D.nx) (RR:=λacc C=>compPost (model X.prog X.w) X.A X.xe (some (assign (.Name y py) X.env)) (λ_ s'=>SP X pins D .next s') acc C) hc hcl hcap hlen hkind hcell hhas hx hN ht he I2 T st0 hfp hq ?_
  intro s1 Da C m H' I4 hn l q
  show wpAny _ X.A (assign (.Name y py) X.env (.ref Da)) _ _ s1
  refine wpAny_assign_Name (nZ (v:=.ref Da) I4 hNX hk (.inl hy) rfl (λs4 I5 hsb=>?_) (.inr hy))
  obtain⟨a,hsa,ha⟩:=hsb
  have hCa:C≠a:=by
    rcases ha with ha|ha
    · rw [ha];exact l.2.1
    · exact Ne.symm (l.2.2.2.1 y a ha)
  refine⟨m,hn.sameBut hsa hCa,λh' hsb=>⟨_,H',I5.letGo l hsb,q⟩⟩
end
open PySem PySem.Spec PyProof.Rows
theorem ly {H:Hp}{p:Addr}(h:H p=none)(o:HO):aL H (upd H p o):=λb u q=>by rw [aI (cf q h)];exact q
structure Def (P:Program)(w:World)(K:PySem.W.Frag)(mg:Str→Option Value)(base:Heap)(x:Str)(k:Nat)(ps:List Str)(sp:Sp):Prop where
 ex:∃(f:Addr) (fd:FuncData),bc P w K mg base cY k f fd ps sp∧Binds K fd ps []∧PySem.W.keepIn K (.ref f)=true∧mg x=some (.ref f)
theorem cw {P:Program}{w:World}{K:PySem.W.Frag}{mg:Str→Option Value}{base:Heap}{x qual:Str}{st:Stmt}{f:Addr}{fd:FuncData}{k:Nat}{ps:List Str}{sp:Sp}(F:cD K x qual st f fd)
    (ok:bc P w K mg base cY k f fd ps sp) (b:Binds K fd ps []) (m:mg x=some (.ref f)):Def P w K mg base x k ps sp:=⟨⟨f,fd,ok,b,F.kp,m⟩⟩
section
variable {X:Cx}{x:Str}{j k:Nat}{ps:List Str}{sp:Sp}{p pos:Pos}{e:Expr}{es:List Expr}{t:TA}
theorem aD (D:Def X.prog X.w X.K X.mg X.base x j ps sp)(hr:en k X.A)(hg:Gl X x)(ha:PA X (e::es) t)(hjk:j≤k:=by decide)(hdb:(x == ("__debug__":Str))=false:=by decide)
    (he:starEach (e::es) X.env=(false,eval e X.env)::starEach es X.env:=by rfl) (hpl:(backTo pos (starEach es X.env)).any (·.1)=false:=by rfl) :
    PE X (.Call (.Name x p) (e::es) [] pos) (vF sp [] E0 t):=by
  obtain⟨f,fd,ok,b,kp,m⟩:=D.ex
  exact BS ok (hr.mono hjk) hg m kp b .nil vo ha hdb he hpl
end
open PySem PySem.Spec PyProof.Rows
def GR (t:TS):TS:=λD σ H=>∃R:St→Hp→Prop,(∀σ' H',R σ' H'→D.nx σ' H')∧t { D with nx:=R } σ H
theorem lh {X:Cx}{st:Stmt}{t:TS}(h:PS X st t):PS X st (GR t):=by
 intro pins s σ H D I ⟨R,hR,q⟩
 refine bU (h pins s σ H _ I q) λf s' hq=>?_
 cases f with
 | next=>
  obtain⟨σ',H',I',r⟩:=hq
  exact⟨σ',H',I',hR _ _ r⟩
 | brk=>exact hq
 | cont=>exact hq
 | ret v=>exact hq
theorem cW:bootBuiltins "isinstance"=some (.builtin "isinstance"):=by decide +kernel
theorem Iw:bootBuiltins "min"=some (.builtin "min"):=by decide +kernel
theorem Du:bootBuiltins "max"=some (.builtin "max"):=by decide +kernel
theorem uW:bootBuiltins "int"=some (.type "int"):=by decide +kernel
theorem mE:bootBuiltins "list"=some (.type "list"):=by decide +kernel
theorem dD:bootBuiltins "str"=some (.type "str"):=by decide +kernel
theorem AR:bootBuiltins "reversed"=some (.type "reversed"):=by decide +kernel
noncomputable def nN:List Expr→Option (List Int)
 | []=>some []
 | .Constant (.int i) _ _::r=>(nN r).map (i::·)
 | _=>none
theorem BP {X:Cx}:∀{es:List Expr} {ns:List Int},nN es=some ns→PA X es (λ_ H Q=>Q (ns.map V.int) H)
 | [],ns,h=>by
  simp only [nN,Option.some.injEq] at h
  subst h
  exact ae
 | e::es,ns,h=>by
  cases e with
  | Constant c k p=>
   cases c with
   | int i=>
    simp only [nN,Option.map_eq_some_iff] at h
    obtain⟨ms,h1,rfl⟩:=h
    have q:=aa (X:=X) (e:=.Constant (.int i) k p) ag (BP h1) rfl
    exact q
   | _=>simp [nN] at h
  | _=>simp [nN] at h
theorem va {a b:Int}(h0:0≤a)(h:a≤b):∀n:Nat,a^n≤b^n
 | 0=>by simp
 | n+1=>by
  rw [Int.pow_succ,Int.pow_succ]
  have h1:=va h0 h n
  have h2:0≤a^n:=Int.pow_nonneg h0
  exact Int.mul_le_mul h1 h h0 (Int.le_trans h2 h1)
theorem Gv {X:Cx}{st st':Stmt}{t:TS}(e:st=st')(h:PS X st' t):PS X st t:=by subst e;exact h
theorem CT {X:Cx}{st:Stmt}{i:Nat}{x:Str}{es:List Expr}{ns:List Int}{p1 p2 pos:Pos}(e:st = .Assign [.Name x p1] (.List es p2) pos)(hc:nN es=some ns)(hN:X.N.Nodup)(hi:X.N[i]?=some x)(hx:Loc X.env.scope x)
    (hf:X.fn x=true∨X.env.scope.names.lookup x=some .local):PS X st (uz (De λ_ H Q=>Q (ns.map V.int) H) (fk i)):=by
  subst e
  exact aB hN hi hx (dS (BP hc)) rfl hf
def pj (J:It)(g:TG)(tb:TS)(D:Ends)(σ:St)(H:Hp):Prop:=∃W:Nat→Nat→St→Hp→Prop,(∃m,W 0 m σ H)∧∀i m σ H,W i m σ H →
 (J.stop i H∧D.nx σ H)∨(J.go i H∧∃N:St→Hp→Prop,(∀σ' H',N σ' H'→∃m',m'<m∧W (i+1) m' σ' H')∧∀x H',J.pd i H x H'→g x σ H' λσ2 H2=>tb { D with nx:=N,ct:=N,bk:=D.nx } σ2 H2)
theorem GU {wi:TI}{g:TG}{tb:TS}{D:Ends}{σ:St}{H:Hp}:JA wi g tb D σ H=wi σ H λJ H1=>pj J g tb D σ H1:=rfl
section
variable {lo c:Int}{n:Nat}{K:PySem.W.Frag}{a:Addr}{xs:List V}{g:TG}{tb:TS}{D:Ends}{σ:St}{H:Hp}
theorem forR (Pv:Nat→St→Hp→Prop)(h0:Pv 0 σ H)
    (hs:∀i σ H,i<n→Pv i σ H→g (.int (lo+i)) σ H λσ2 H2=>tb { D with nx:=Pv (i+1),ct:=Pv (i+1),bk:=D.nx } σ2 H2) (hd:∀σ H,Pv n σ H→D.nx σ H):pj (qF lo n) g tb D σ H:=w5 Pv h0 hs hd
theorem Kz (Pv:Nat→St→Hp→Prop)(h0:Pv 0 σ H)
    (hs:∀i σ H,i<n→Pv i σ H→g (.int (lo+i*c)) σ H λσ2 H2=>tb { D with nx:=Pv (i+1),ct:=Pv (i+1),bk:=D.nx } σ2 H2) (hd:∀σ H,Pv n σ H→D.nx σ H):pj (yj lo c n) g tb D σ H:=CC Pv h0 hs hd
theorem forL (xs:List V)(Pv:Nat→St→Hp→Prop)(h0:Pv 0 σ H)(hl:∀i σ H,i≤xs.length→Pv i σ H→az K H a xs)
    (hs:∀i x σ H,xs[i]?=some x→Pv i σ H→g x σ H λσ2 H2=>tb { D with nx:=Pv (i+1),ct:=Pv (i+1),bk:=D.nx } σ2 H2) (hd:∀σ H,Pv xs.length σ H→D.nx σ H):pj (mL K a) g tb D σ H:=Fg Pv h0 hl hs hd
theorem IJ (ns:List Int)(Pv:Nat→St→Hp→Prop)(h0:Pv 0 σ H)(hl:∀i σ H,Pv i σ H→az K H a (ns.map V.int))
    (hs:∀i (x:Int) σ H,ns[i]?=some x→Pv i σ H→g (.int x) σ H λσ2 H2=>tb { D with nx:=Pv (i+1),ct:=Pv (i+1),bk:=D.nx } σ2 H2) (hd:∀σ H,Pv ns.length σ H→D.nx σ H):pj (mL K a) g tb D σ H:=by
  refine forL (ns.map V.int) Pv h0 (λi σ H _ h=>hl i σ H h) (λi v σ H hv p=>?_) (λσ H p=>hd σ H (by rw [List.length_map] at p;exact p))
  rw [List.getElem?_map] at hv
  cases z:ns[i]? with
  | none=>rw [z] at hv;cases hv
  | some x=>
    rw [z] at hv
    cases hv
    exact hs i x σ H z p
end
theorem EU {c:TT}{tb:TS}{D:Ends}{σ:St}{H:Hp}(W:Nat→St→Hp→Prop)(m:Nat)(h0:W m σ H)(hs:∀m σ H,W m σ H →
    c σ H λb H1=>if b=true then ∃N:St→Hp→Prop,(∀σ' H',N σ' H'→∃m',m'<m∧W m' σ' H')∧tb { D with nx:=N,ct:=N,bk:=D.nx } σ H1 else D.nx σ H1):EH c tb D σ H:=⟨W,⟨m,h0⟩,hs⟩
theorem aL.up {H H':Hp}(g:aL H H'){p:Addr}(hp:H p=none)(o:HO):aL H (upd H' p o):=λb u q=>by rw [aI (cf q hp)];exact g b u q
theorem pP {t:TS}{D:Ends}{σ:St}{H:Hp}(R:St→Hp→Prop)(h:t { D with nx:=R } σ H)(hR:∀σ' H',R σ' H'→D.nx σ' H'):GR t D σ H:=⟨R,hR,h⟩
theorem GD {a b:Int}:oz (.int a) (.int b)=true:=rfl
theorem GB {a b:Bool}:oz (.bl a) (.bl b)=true:=rfl
theorem GF {a:Int}:oz (.int a) .cU=true:=rfl
theorem GI {a:Int}:oz .cU (.int a)=true:=rfl
theorem GK {a b:Str}:oz (.str a) (.str b)=true:=rfl
theorem GJ:oz .cU .cU=true:=rfl
theorem GC {a:Bool}:oz (.bl a) .cU=true:=rfl
theorem GG {a:Int}{b:Str}:oz (.int a) (.str b)=true:=rfl
theorem A4 (K:PySem.W.Frag):PySem.W.kitOne K (.type "int") (.type "int")=some true:=by unfold PySem.W.kitOne;rw [if_pos (by decide)]
theorem yV (K:PySem.W.Frag):PySem.W.kitOne K (.type "int") (.type "bool")=some false:=by unfold PySem.W.kitOne;rw [if_neg (by decide)];kernel_rfl
theorem A5 (K:PySem.W.Frag):PySem.W.kitOne K (.type "int") (.type "str")=some false:=by unfold PySem.W.kitOne;rw [if_neg (by decide)];kernel_rfl
theorem yX (K:PySem.W.Frag):PySem.W.kitOne K (.type "int") (.type "list")=some false:=by unfold PySem.W.kitOne;rw [if_neg (by decide)];kernel_rfl
theorem xA (K:PySem.W.Frag):PySem.W.kitOne K (.type "int") (.type "tuple")=some false:=by unfold PySem.W.kitOne;rw [if_neg (by decide)];kernel_rfl
theorem yW (K:PySem.W.Frag):PySem.W.kitOne K (.type "int") (.type "dict")=some false:=by unfold PySem.W.kitOne;rw [if_neg (by decide)];kernel_rfl
theorem yT (K:PySem.W.Frag):PySem.W.kitOne K (.type "bool") (.type "int")=some true:=by unfold PySem.W.kitOne;rw [if_neg (by decide)];kernel_rfl
theorem xw (K:PySem.W.Frag):PySem.W.kitOne K (.type "bool") (.type "bool")=some true:=by unfold PySem.W.kitOne;rw [if_pos (by decide)]
theorem yU (K:PySem.W.Frag):PySem.W.kitOne K (.type "bool") (.type "str")=some false:=by unfold PySem.W.kitOne;rw [if_neg (by decide)];kernel_rfl
theorem xy (K:PySem.W.Frag):PySem.W.kitOne K (.type "bool") (.type "list")=some false:=by unfold PySem.W.kitOne;rw [if_neg (by decide)];kernel_rfl
theorem vV (K:PySem.W.Frag):PySem.W.kitOne K (.type "bool") (.type "tuple")=some false:=by unfold PySem.W.kitOne;rw [if_neg (by decide)];kernel_rfl
theorem xx (K:PySem.W.Frag):PySem.W.kitOne K (.type "bool") (.type "dict")=some false:=by unfold PySem.W.kitOne;rw [if_neg (by decide)];kernel_rfl
theorem uf (K:PySem.W.Frag):PySem.W.kitOne K (.type "NoneType") (.type "int")=some false:=by unfold PySem.W.kitOne;rw [if_neg (by decide)];kernel_rfl
theorem sO (K:PySem.W.Frag):PySem.W.kitOne K (.type "NoneType") (.type "bool")=some false:=by unfold PySem.W.kitOne;rw [if_neg (by decide)];kernel_rfl
theorem ug (K:PySem.W.Frag):PySem.W.kitOne K (.type "NoneType") (.type "str")=some false:=by unfold PySem.W.kitOne;rw [if_neg (by decide)];kernel_rfl
theorem sQ (K:PySem.W.Frag):PySem.W.kitOne K (.type "NoneType") (.type "list")=some false:=by unfold PySem.W.kitOne;rw [if_neg (by decide)];kernel_rfl
theorem rA (K:PySem.W.Frag):PySem.W.kitOne K (.type "NoneType") (.type "tuple")=some false:=by unfold PySem.W.kitOne;rw [if_neg (by decide)];kernel_rfl
theorem sP (K:PySem.W.Frag):PySem.W.kitOne K (.type "NoneType") (.type "dict")=some false:=by unfold PySem.W.kitOne;rw [if_neg (by decide)];kernel_rfl
theorem A6 (K:PySem.W.Frag):PySem.W.kitOne K (.type "str") (.type "int")=some false:=by unfold PySem.W.kitOne;rw [if_neg (by decide)];kernel_rfl
theorem yY (K:PySem.W.Frag):PySem.W.kitOne K (.type "str") (.type "bool")=some false:=by unfold PySem.W.kitOne;rw [if_neg (by decide)];kernel_rfl
theorem A7 (K:PySem.W.Frag):PySem.W.kitOne K (.type "str") (.type "str")=some true:=by unfold PySem.W.kitOne;rw [if_pos (by decide)]
theorem y4 (K:PySem.W.Frag):PySem.W.kitOne K (.type "str") (.type "list")=some false:=by unfold PySem.W.kitOne;rw [if_neg (by decide)];kernel_rfl
theorem xB (K:PySem.W.Frag):PySem.W.kitOne K (.type "str") (.type "tuple")=some false:=by unfold PySem.W.kitOne;rw [if_neg (by decide)];kernel_rfl
theorem yZ (K:PySem.W.Frag):PySem.W.kitOne K (.type "str") (.type "dict")=some false:=by unfold PySem.W.kitOne;rw [if_neg (by decide)];kernel_rfl
noncomputable abbrev qU:List String:=["int","bool","str","list","tuple","dict"]
noncomputable def ko (a b:String):Option Bool:=if b∈qU then some (a == b || (a == "bool" && b == "int")) else none
theorem Hg {K:PySem.W.Frag}{b:String}{v:Bool}(h:ko "int" b=some v):PySem.W.kitOne K (.type "int") (.type b)=some v:=by
 unfold ko at h
 split at h
 ·rename_i z
  cases h
  simp only [qU,List.mem_cons,List.not_mem_nil,or_false] at z
  rcases z with rfl|rfl|rfl|rfl|rfl|rfl
  ·exact A4 K
  ·exact yV K
  ·exact A5 K
  ·exact yX K
  ·exact xA K
  ·exact yW K
 ·cases h
theorem Fq {K:PySem.W.Frag}{b:String}{v:Bool}(h:ko "bool" b=some v):PySem.W.kitOne K (.type "bool") (.type b)=some v:=by
 unfold ko at h
 split at h
 ·rename_i z
  cases h
  simp only [qU,List.mem_cons,List.not_mem_nil,or_false] at z
  rcases z with rfl|rfl|rfl|rfl|rfl|rfl
  ·exact yT K
  ·exact xw K
  ·exact yU K
  ·exact xy K
  ·exact vV K
  ·exact xx K
 ·cases h
theorem yP {K:PySem.W.Frag}{b:String}{v:Bool}(h:ko "NoneType" b=some v):PySem.W.kitOne K (.type "NoneType") (.type b)=some v:=by
 unfold ko at h
 split at h
 ·rename_i z
  cases h
  simp only [qU,List.mem_cons,List.not_mem_nil,or_false] at z
  rcases z with rfl|rfl|rfl|rfl|rfl|rfl
  ·exact uf K
  ·exact sO K
  ·exact ug K
  ·exact sQ K
  ·exact rA K
  ·exact sP K
 ·cases h
theorem Hh {K:PySem.W.Frag}{b:String}{v:Bool}(h:ko "str" b=some v):PySem.W.kitOne K (.type "str") (.type b)=some v:=by
 unfold ko at h
 split at h
 ·rename_i z
  cases h
  simp only [qU,List.mem_cons,List.not_mem_nil,or_false] at z
  rcases z with rfl|rfl|rfl|rfl|rfl|rfl
  ·exact A6 K
  ·exact yY K
  ·exact A7 K
  ·exact y4 K
  ·exact xB K
  ·exact yZ K
 ·cases h
noncomputable def Fp:V→String→Option Bool
 | .int _,n=>ko "int" n
 | .bl _,n=>ko "bool" n
 | .cU,n=>ko "NoneType" n
 | .str _,n=>ko "str" n
 | _,_=>none
section
variable {X:Cx}
theorem lP:fz X (.builtin "isinstance") (λxs H Q=>∃x n,xs=[x,.ty n]∧∃b,Fp x n=some b∧Q (.bl b) H):=by
 intro pins s σ H xs us Q I r h
 obtain⟨x,n,rfl,b,e,q⟩:=h
 refine AS pins s σ H _ us Q I r ?_
 cases x with
 | int i=>exact⟨_,_,_,b,rfl,rfl,.int i,Hg e,q⟩
 | bl i=>exact⟨_,_,_,b,rfl,rfl,.bl i,Fq e,q⟩
 | cU=>exact⟨_,_,_,b,rfl,rfl,.cU,yP e,q⟩
 | str i=>exact⟨_,_,_,b,rfl,rfl,.str i,Hh e,q⟩
 | _=>cases e
end
theorem tQ {i:Int}:Fp (.int i) "int"=some true:=(by decide:ko "int" "int"=_)
theorem tR {i:Str}:Fp (.str i) "str"=some true:=(by decide:ko "str" "str"=_)
open PySem PySem.Spec PyProof.Rows
def iU (J:It)(caps:List Nat)(tt:TT)(te:TE)(σ:St)(H:Hp)(Q:VK):Prop:=∃(n:Nat) (W:Nat→List V→Hp→Prop),n≤sizeLine∧W 0 [] H∧∀i ys H2,W i ys H2 →
 (J.stop i H2∧∀p,H2 p=none→Q (.ref p) (upd H2 p (.lst ys))) ∨
 (J.go i H2∧i<n∧∀x H3,J.pd i H2 x H3→tt (some x::cg caps σ) H3 λb H4=>if b=true then te (some x::cg caps σ) H4 λv H5=>W (i+1) (ys++[v]) H5 else W (i+1) ys H4)
theorem ET {caps:List Nat}{wi:TI}{tt:TT}{te:TE}{σ:St}{H:Hp}{Q:VK}:C6 caps wi tt te σ H Q=wi σ H λJ H1=>iU J caps tt te σ H1 Q:=rfl
section
variable {lo:Int}{n:Nat}{K:PySem.W.Frag}{a:Addr}{caps:List Nat}{tt:TT}{te:TE}{σ:St}{H:Hp}{Q:VK}
theorem yb (Pv:Nat→List V→Hp→Prop)(hn:n≤sizeLine)(h0:Pv 0 [] H)
    (hs:∀i ys H,i<n→Pv i ys H→tt (some (.int (lo+i))::cg caps σ) H λb H4=>if b=true then te (some (.int (lo+i))::cg caps σ) H4 λv H5=>Pv (i+1) (ys++[v]) H5 else Pv (i+1) ys H4)
    (hd:∀ys H,Pv n ys H→∀p,H p=none→Q (.ref p) (upd H p (.lst ys))):iU (qF lo n) caps tt te σ H Q:=by
  refine⟨n,λi ys H=>i≤n∧Pv i ys H,hn,⟨Nat.zero_le _,h0⟩,?_⟩
  rintro i ys H2 ⟨hi,p⟩
  by_cases hlt:i<n
  · refine .inr ⟨hlt,hlt,?_⟩
    rintro x H3 ⟨rfl,rfl⟩
    have key:=hs i ys H3 hlt p
    have e1:∀H5 zs,Pv (i+1) zs H5→i+1≤n∧Pv (i+1) zs H5:=λ_ _ h=>⟨hlt,h⟩
    have e2:(λ(b:Bool) (H4:Hp)=>if b=true then te (some (.int (lo+i))::cg caps σ) H4 λv H5=>Pv (i+1) (ys++[v]) H5 else Pv (i+1) ys H4)=λb H4=>if b=true then te (some (.int (lo+i))::cg caps σ) H4 λv H5=>i+1≤n∧Pv (i+1) (ys++[v]) H5 else i+1≤n∧Pv (i+1) ys H4:=by
      funext b H4
      have z:i+1≤n:=hlt
      simp only [z,true_and]
    rw [e2] at key
    exact key
  · have e:i=n:=by omega
    subst e
    exact .inl ⟨Nat.le_refl _,hd ys H2 p⟩
theorem r8 (ns:List Int)(Pv:Nat→List V→Hp→Prop)(hn:ns.length≤sizeLine)(h0:Pv 0 [] H)(hl:∀i ys H,Pv i ys H→az K H a (ns.map V.int))
    (hs:∀i (x:Int) ys H,ns[i]?=some x→Pv i ys H→tt (some (.int x)::cg caps σ) H λb H4=>if b=true then te (some (.int x)::cg caps σ) H4 λv H5=>Pv (i+1) (ys++[v]) H5 else Pv (i+1) ys H4)
    (hd:∀ys H,Pv ns.length ys H→∀p,H p=none→Q (.ref p) (upd H p (.lst ys))):iU (mL K a) caps tt te σ H Q:=by
  refine⟨ns.length,λi ys H=>i≤ns.length∧Pv i ys H,hn,⟨Nat.zero_le _,h0⟩,?_⟩
  rintro i ys H2 ⟨hi,p⟩
  have hS:=hl i ys H2 p
  by_cases hlt:i<ns.length
  · obtain⟨x,hx⟩:∃x,ns[i]?=some x:=⟨ns[i],List.getElem?_eq_getElem hlt⟩
    have hv:(ns.map V.int)[i]?=some (.int x):=by rw [List.getElem?_map,hx];rfl
    refine .inr ⟨⟨_,_,hS,hv⟩,hlt,?_⟩
    rintro y H3 ⟨rfl,hy⟩
    have hxy:y = .int x:=(Option.some.inj (hv.symm.trans (hy _ hS))).symm
    subst hxy
    have key:=hs i x ys H3 hx p
    have e2:(λ(b:Bool) (H4:Hp)=>if b=true then te (some (.int x)::cg caps σ) H4 λv H5=>Pv (i+1) (ys++[v]) H5 else Pv (i+1) ys H4)=λb H4=>if b=true then te (some (.int x)::cg caps σ) H4 λv H5=>i+1≤ns.length∧Pv (i+1) (ys++[v]) H5 else i+1≤ns.length∧Pv (i+1) ys H4:=by
      funext b H4
      have z:i+1≤ns.length:=hlt
      simp only [z,true_and]
    rw [e2] at key
    exact key
  · have e:i=ns.length:=by omega
    subst e
    exact .inl ⟨⟨_,hS,by rw [List.length_map];exact Nat.le_refl _⟩,hd ys H2 p⟩
end
theorem ID {CX:jy}{P:Program}{w:World}{K:PySem.W.Frag}{mg:Str→Option Value}{base:Heap}{N:List Str}{qual:Str}{scope:Scope}{f:Addr}{cd:Value}{A:Around}{outer:List Env}{s:Shared}{H:Hp}{E:XK}:(oj CX P w K mg base N qual scope f cd A outer s H E).K=K:=rfl
theorem IA {X:Cx}{N:List Str}{scope:Scope}{cl:List (Str×Addr)}{C:Addr}{s:Shared}{H:Hp}{fp:List Addr}:(dc X N scope cl C s H fp).K=X.K:=rfl
end L2
namespace Rv
open PySem PySem.Spec PyProof.Rows
section
variable {prog:Program}{w:World}{A:Around}{E:Value→Shared→Prop}{s:Shared}
end
section
variable {prog:Program}{w:World}{A:Around}{E:Value→Shared→Prop}{s:Shared}
end
end Rv
namespace L2
open PySem PySem.Spec PyProof.Rows
noncomputable def Ii (K:PySem.W.Frag)(a:Addr)(n:Nat):It:=
 ⟨λi H=>i<n∧∃xs,az K H a xs∧xs.length=n,λi H x H'=>H'=H∧∀xs,az K H a xs→xs[n-1-i]?=some x,λi _=>n≤i⟩
theorem Gf {P:Program}{w:World}{K:PySem.W.Frag}{tg:Expr}(a it:Addr)(n:Nat):Turn P w K tg (Ii K a n) [it] it (λi h=>i≤n∧h.IsRevIter it a ((n:Int)-1-(i:Int))) where
 mem:=by simp
 obj:=λi h st b hb=>by
  have e:b=it:=by simpa using hb
  subst e
  obtain⟨_,o,e,c,d⟩:=st
  exact⟨o,e,λv z=>by rw [d] at z;cases z⟩
 keep:=λi h h' st k=>⟨st.1,st.2.at λo e=>k it (by simp) o e⟩
 item:=by
  intro X hP hw hK hc i pins s σ H E I hf st hg
  subst hP hw hK
  obtain⟨hi,xs,hq,hn⟩:=hg
  obtain⟨its,rv,p,hz⟩:=I.list hq
  have hlt:n-1-i<xs.length:=by omega
  have hx:xs[n-1-i]?=some xs[n-1-i]:=List.getElem?_eq_getElem hlt
  obtain⟨u,hu,ru⟩:=rv.get hx
  obtain⟨f0,f1,f2,f3,f4,f5⟩:=hf it (by simp)
  have st2:=st.2
  rw [show (n:Int)-1-(i:Int)=((n-1-i:Nat):Int) by omega] at st2
  refine wpAny_pyNext_rev_item st2 p.isList (x:=u) (by simpa using hu) λh' st' sb=>?_
  have I1:Inv X pins σ H { s with heap:=h' }:=I.turned (t':=s.toks) (λb o hb e=>(sb.2 b hb).trans e) f0 f1 f3 f4 f5
  rw [show ((n-1-i:Nat):Int)-1=(n:Int)-1-((i+1:Nat):Int) by omega] at st'
  obtain⟨o,e,c,d⟩:=id st'
  exact⟨u,rfl,u7 (s:={ s with heap:=h' }) e c d (by decide) ⟨_,H,I1,ru,⟨rfl,λys hy=>by rw [I.pR hy hq];exact hx⟩,⟨hi,st'⟩,λb hb=>(hf b hb).1⟩⟩
 done:=by
  intro X hP hw hK hc i pins s σ H E I hf st hg
  subst hP hw hK
  obtain⟨f0,f1,f2,f3,f4,f5⟩:=hf it (by simp)
  have hg':n≤i:=hg
  have st2:=st.2
  rw [show (n:Int)-1-(i:Int) = -1 by have:=st.1;omega] at st2
  exact wpAny_pyNext_rev_end (I.ok.hd hc) st2 λh' eb=>⟨rfl,I.turned (t':=s.toks) (λb o hb e=>eb b o hb e) f0 f1 f3 f4 f5⟩
 self:=λ_ _ _ _ _ st h=>wpAny_pyIter_revIter st.2 h
section
variable {X:Cx}{tg e:Expr}{te:TE}{p p2 pos pos2:Pos}
theorem IG {pins:List (Addr×Obj)}{σ:St}{H:Hp}{s:Shared}{R:Addr→List V→Hp→Prop}(hg:Gl X "reversed")(hm:X.mg "reversed"=none)(he:PE X e te)(I:Inv X pins σ H s)
    (h:te σ H λx H1=>∃a xs,x = .ref a∧az X.K H1 a xs∧R a xs H1)
    (hs:starEach [e] X.env=(false,eval e X.env)::starEach [] X.env:=by rfl) :
    wpAny (model X.prog X.w) X.A (eval (.Call (.Name "reversed" p) [e] [] pos) X.env) (λv s1=>∃it a xs H1,v = .ref it∧Inv X pins σ H1 s1∧s1.heap.IsRevIter it a ((xs.length:Int)-1)∧gF X pins H1 it∧az X.K H1 a xs∧a≠it∧R a xs H1) X.xe s:=by
  refine wpAny_Call_Name_kw (kq I hg hm AR ?_ (by decide) (by decide))
  refine PyProof.Rows.callWith_type1 (bU (aa he ae hs pos pins s σ H (λvs H1=>∃a xs,vs=[.ref a]∧az X.K H1 a xs∧R a xs H1) I ?_) λus s1 ⟨vs,H1,I1,r1,q1⟩=>?_) hs rfl
  · show te σ H _
    have e2:(λx H1=>pX σ H1 λxs H2=>(λvs H1=>∃a ys,vs=[V.ref a]∧az X.K H1 a ys∧R a ys H1) (x::xs) H2)=λx H1=>∃a xs,x=V.ref a∧az X.K H1 a xs∧R a xs H1:=by
      funext x H1
      simp only [pX,List.cons.injEq,and_true]
    have:=h
    rw [←e2] at this
    exact this
  · obtain⟨a,xs,rfl,hq,hR⟩:=q1
    obtain⟨u,rfl,ru⟩:=vals1 r1
    cases ru
    obtain⟨its,rv,pl,hz⟩:=I1.list hq
    refine call_reversed_list pl.isList ?_
    have hl:=rv.length
    obtain⟨o,ho,_⟩:=id pl.isList
    refine⟨s1.heap.objs.size,a,xs,H1,rfl,I1.kept (t':=s1.toks) λb o e=>Heap.get?_push_of_some _ e,⟨_,Heap.get?_push_size _ rfl,rfl,?_⟩,I1.pH (Nat.le_refl _) (I1.bb.fresh (Nat.le_refl _)),hq,Nat.ne_of_lt (Heap.lt_size ho),hR⟩
    simp only [revObj,List.size_toArray]
    rw [←hl]
def Fm (K:PySem.W.Frag)(tl:TE):TI:=λσ H R=>tl σ H λx H1=>∃a xs,x = .ref a∧az K H1 a xs∧R (Ii K a xs.length) H1
theorem Eo (hg:Gl X "reversed")(hm:X.mg "reversed"=none)(he:PE X e te)(hs:starEach [e] X.env=(false,eval e X.env)::starEach [] X.env:=by rfl):PI X tg (.Call (.Name "reversed" p) [e] [] pos) (Fm X.K te):=by
 intro pins s σ H R I h
 refine bU (IG hg hm he I h hs) λv s1 ⟨it,a,xs,H1,hv,I1,hit,hf,hq,hne,hR⟩=>?_
 subst hv
 refine wpAny_pyIter_revIter hit ?_
 refine⟨it,[it],_,_,H1,rfl,I1,Gf a it xs.length,⟨Nat.zero_le _,by simpa using hit⟩,λb hb=>?_,hR⟩
 have e:b=it:=by simpa using hb
 subst e
 exact hf
end
theorem IK {K:PySem.W.Frag}{a:Addr}{g:TG}{tb:TS}{D:Ends}{σ:St}{H:Hp}(ns:List Int)(Pv:Nat→St→Hp→Prop){n:Nat}(hn:n=ns.length)(h0:Pv 0 σ H)(hl:∀i σ H,Pv i σ H→az K H a (ns.map V.int))
    (hs:∀i (x:Int) σ H,ns.reverse[i]?=some x→Pv i σ H→g (.int x) σ H λσ2 H2=>tb { D with nx:=Pv (i+1),ct:=Pv (i+1),bk:=D.nx } σ2 H2) (hd:∀σ H,Pv ns.length σ H→D.nx σ H):pj (Ii K a n) g tb D σ H:=by
  subst hn
  refine⟨λi m σ H=>m=ns.length-i∧i≤ns.length∧Pv i σ H,⟨ns.length,by simp,Nat.zero_le _,h0⟩,?_⟩
  rintro i m σ H ⟨rfl,hi,p⟩
  have q:=hl i σ H p
  by_cases hlt:i<ns.length
  · refine .inr ⟨⟨hlt,_,q,by simp⟩,Pv (i+1),λσ' H' p'=>⟨ns.length-(i+1),by omega,rfl,hlt,p'⟩,λx H' y=>?_⟩
    obtain⟨e,y⟩:=y
    subst e
    have y':=y _ q
    rw [List.getElem?_map] at y'
    have hr:ns.reverse[i]?=ns[ns.length-1-i]?:=List.getElem?_reverse hlt
    cases z:ns[ns.length-1-i]? with
    | none=>rw [z] at y';cases y'
    | some v=>
      rw [z] at y'
      cases y'
      exact hs i v σ _ (hr.trans z) p
  · have e:i=ns.length:=by omega
    subst e
    exact .inl ⟨Nat.le_refl _,hd σ H p⟩
theorem yA {α:Type}(f:α→V)(xs:List α){k:Int}(hk:0≤k):qY (xs.map f) (some k) none=(xs.drop k.toNat).map f:=by
 obtain⟨n,rfl⟩:∃n:Nat,k=(n:Int):=⟨k.toNat,by omega⟩
 unfold qY
 rw [HT.zT,HT.HL,Int.toNat_natCast,List.map_drop]
 rcases Nat.le_total n (xs.map f).length with h|h
 ·rw [Nat.min_eq_left h,List.take_of_length_le (by rw [List.length_drop];exact Nat.le_refl _)]
 ·rw [Nat.min_eq_right h,List.drop_of_length_le (Nat.le_refl _),List.drop_of_length_le h]
  simp
theorem cL {H H1:Hp}{p:Addr}{o:HO}(e:upd H p o=H1)(n:H p=none):aL H H1∧H1 p=some o:=by
 subst e
 exact⟨ly n o,aS⟩
theorem GV {K:PySem.W.Frag}{p:Addr}{H:Hp}:Cc K "list" (.ref p) H=∃xs,az K H p xs:=by
 unfold Cc
 simp
section
variable {K:PySem.W.Frag}{H:Hp}{a b:Addr}{ns ms:List Int}{Q:VK}
end
theorem cB {t u:TS}{D:Ends}{σ:St}{H:Hp}(h:t { D with nx:=u D } σ H):Di t u D σ H:=h
section
variable {X:Cx}
theorem Dw:fz X (.type "int") (λxs H Q=>∃k,xs=[.bl k]∧Q (.int (if k=true then 1 else 0)) H):=λpins s σ H xs us Q I r ⟨k,e,q⟩=>Dv pins s σ H xs us Q I r (.inr ⟨k,e,q⟩)
end
end L2
namespace Ul
open PySem PySem.Spec PyProof.Rows
section
variable {prog:Program}{w:World}{A:Around}{E:Value→Shared→Prop}
theorem wX {it l:Addr}{items:Array Value}(hne:l≠it):∀(n i:Nat) (s:Shared) (Q:List Value→Shared→Prop),s.heap.IsListIter it l i→s.heap.IsList l items→i+n≤items.size →
    (∀h',h'.IsListIter it l (i+n)→Heap.SameBut it s.heap h'→Q ((items.toList.drop i).take n) { s with heap:=h' })→wpAny (model prog w) A (draw (.ref it) n) Q E s
  | 0,i,s,Q,hit,_,_,hQ=>by
    show wpAny _ _ (pure []) Q E s
    exact wpAny_pure (by simpa using hQ s.heap hit (Heap.SameBut.refl ..))
  | n+1,i,s,Q,hit,ht,hle,hQ=>by
    have hlt:i<items.size:=by omega
    show wpAny _ _ (pyNext (.ref it) >>= _) Q E s
    refine wpAny_bind (wpAny_pyNext_list_item hit ht (x:=items[i]) (by simp [hlt]) λh₁ hit₁ hs₁=>?_)
    refine wpAny_bind (wpAny_holding (wX hne n (i+1) _ _ hit₁ (ht.at λo e=>(hs₁.2 l hne).trans e) (by omega) λh₂ hit₂ hs₂=>wpAny_pure ?_))
    have hd:items.toList.drop i=items[i]::items.toList.drop (i+1):=by simp [List.drop_eq_getElem_cons,hlt]
    have:=hQ h₂ (by rw [show i+(n+1)=i+1+n by omega];exact hit₂) (hs₁.trans hs₂)
    rw [hd,List.take_succ_cons] at this
    exact this
variable {s:Shared}
theorem uA {l:Addr}{items:Array Value}{Q:List Value→Shared→Prop}(hh:A.handled=none)(ht:s.heap.IsList l items)
    (hQ:∀h',Heap.ExtBut s.heap.objs.size s.heap h'→Q items.toList { s with heap:=h' }):wpAny (model prog w) A (unpackItems (.ref l) items.size none) Q E s:=by
  have hlt:l≠s.heap.objs.size:=by obtain⟨o,ho,_⟩:=id ht;exact Nat.ne_of_lt (Heap.lt_size ho)
  unfold unpackItems
  refine wpAny_bind ?_
  · unfold notIterableAtAll
    refine wpAny_bind (wpAny_specialOf ht.typeIs PySem.slot_list_iter.lookup ?_)
    refine wpAny_pure ?_
    simp only [Bool.false_eq_true,if_false]
    refine wpAny_bind (wpAny_holding (wpAny_pyIter_list ht ?_))
    refine wpAny_bind (wpAny_holding (wX hlt items.size 0 _ _ ⟨_,Heap.get?_push_size _ rfl,rfl,rfl⟩ (ht.at λo e=>Heap.get?_push_of_some _ e) (by omega) λh₁ hit₁ hs₁=>?_))
    have hall:List.take items.size (List.drop 0 items.toList)=items.toList:=by
      rw [List.drop_zero];exact List.take_of_length_le (by simp)
    rw [hall]
    rw [if_neg (by simp)]
    have ht₁:h₁.IsList l items:=(ht.at (h':=s.heap.push _) λo e=>Heap.get?_push_of_some _ e).at λo e=>(hs₁.2 l hlt).trans e
    refine wpAny_bind (wpAny_holding (wpAny_pyNext_list_end hh hit₁ ht₁ (by simp) λh₂ he₂=>?_))
    simp only [Option.isSome_none,Bool.false_eq_true,if_false]
    refine wpAny_pure (hQ h₂ λb o hb e=>he₂ b o hb (hs₁.extBut b o hb (Heap.get?_push_of_some _ e)))
theorem sM {env:Env}{elts:List Expr}{x1}{pos:Pos}{l:Addr}{items:Array Value}{Q:Unit→Shared→Prop}(hh:A.handled=none)(ht:s.heap.IsList l items)
    (hn:(assignEach elts env).length=items.size) (hstar:(assignEach elts env).findIdx? (·.1)=none)
    (h:∀h',Heap.ExtBut s.heap.objs.size s.heap h'→wpAny (model prog w) A (assignInOrder ((assignEach elts env).map (·.2)) items.toList) Q E { s with heap:=h' }) :
    wpAny (model prog w) A (assign (.Tuple elts x1 pos) env (.ref l)) Q E s:=by
  rw [assign_Tuple]
  refine wpAny_bind (wpAny_standAt ?_)
  unfold unpack
  rw [hn,hstar]
  exact wpAny_bind (wpAny_holding (uA hh ht h))
end
end Ul
namespace L2
open PySem PySem.Spec PyProof.Rows
section
variable {X:Cx}{pos:Pos}
def Fh (K:PySem.W.Frag)(n:Nat)(t:uP):TG:=λv σ H Q=>∃a xs,v = .ref a∧az K H a xs∧xs.length=n∧t xs σ H Q
theorem El {es:List Expr}{k:Nat}{t:uP}{n:Nat}(hc:X.calm=true)(h:Dq X es t)
    (hn:(assignEach es X.env).length=n:=by rfl) (hst:(assignEach es X.env).findIdx? (·.1)=none:=by rfl):PG X (.Tuple es k pos) (Fh X.K n t):=by
  intro pins s σ H v u Q I r hw
  obtain⟨a,xs,e1,hq,hl,hw⟩:=hw
  subst e1
  cases r
  obtain⟨its,rv,ht,hz⟩:=I.list hq
  refine Ul.sM (I.ok.hd hc) ht.isList (by simp [hn,←hl,rv.length]) hst λh' hx=>?_
  have I1:Inv X pins σ H { s with heap:=h' }:=I.kept (t':=s.toks) λb o e=>hx b o (Nat.ne_of_lt (Heap.lt_size e)) e
  exact h pins _ σ H xs _ Q I1 (by simpa using rv) hw
theorem IM {n:Nat}(h:n+64<cLine):n+1<cLine:=by omega
end
open PySem PySem.Spec PyProof.Rows
noncomputable def eh (P:Program)(w:World):jy:=λouter H s E e s'=>∃(ea t:Addr) (C:Value) (vs:List Value) (B:Heap) (H':Hp),e = .ref ea∧s'.os=s.os∧AllBare s'.gens∧Heap.FlyingW B outer ea C (.ref t) s'.heap∧s'.heap.TupAt t vs∧B.get? t=none ∧
 e7 P w H' B∧(∀b o,s.heap.get? b=some o→H b=none→b∉dR outer→B.get? b=some o)∧(∀b o,s.heap.get? b=some o→b∉dR outer→∃o',B.get? b=some o')∧Un (dR outer) [] H H' s.heap s'.heap∧E C none H'
section
variable {X:Cx}{pins:List (Addr×Obj)}{σ:St}{H H1:Hp}{s s1:Shared}
theorem kU {env:Env}{L:Addr}{l:List Env}(h:env.frame=some L){b:Addr}:b∈dR (env::l)↔b=L∨b∈dR l:=by
 unfold dR
 rw [List.filterMap_cons,h]
 exact List.mem_cons
theorem Inv.old (I:Inv X pins σ H s){b:Addr}{o:Obj}(e:X.s₀.heap.get? b=some o):b≠X.env.locals:=λz=>by
 have h1:@LT.lt Nat instLTNat b X.s₀.heap.objs.size:=Heap.lt_size e
 have h2:@LE.le Nat _ X.s₀.heap.objs.size X.env.locals:=I.ok.above
 have z':@Eq Nat b X.env.locals:=z
 omega
theorem IL {fs:List Addr}(I:Inv X pins σ H s)(hf:∀b∈fs,H b=none):e7 X.prog X.w H (PySem.W.hideAll s.heap fs):=λa o e=>by
 have q:cT X.prog X.w H s.heap a o:=I.bb a o e
 refine q.gB (λc u hc e'=>PySem.W.hideAll_get _ e' λz=>?_) (λc e'=>e') λc zs e'=>e'
 have h0:=hf c z
 rcases hc with hc|hc
 ·rw [hc,e] at h0;cases h0
 ·rw [hc] at h0;cases h0
theorem KW {M:Model}{h':Heap}{ea:Addr}{C:Value}{vs:List Value}{E:XK}{EE:Value→Shared→Prop}(hst:X.stack=X.env::X.outer)(hfr:X.env.frame=some X.env.locals)(hex:X.ex=[])(I:Inv X pins σ H s)
    (hx:Heap.MadeExcOf s.heap h' ea C vs) (hE:E C none H) :
    wpAny M X.A (leaving X.env (.ref ea)) (λ_ s''=>eh X.prog X.w X.outer X.H₀ X.s₀ E (.ref ea) s'') EE { s with heap:=h' }:=by
  have hA:X.A.frames=some (X.env::X.outer):=by rw [←hst];exact I.ok.frames
  have fstk:∀b∈dR (X.env::X.outer),H b=none:=by rw [←hst];exact I.pb
  have hfun:s.heap.FunFrames X.base (X.env::X.outer):=by rw [←hst];exact I.stack
  have hin:∀env∈(X.env::X.outer),∀b,env.frame=some b→b∈dR (X.env::X.outer):=λenv he b hb=>List.mem_filterMap.mpr ⟨env,he,hb⟩
  refine wpAny_leaves_madeW (base:=PySem.W.hideAll s.heap (dR (X.env::X.outer))) hA hfr (λb o q=>PySem.W.of_hideAll _ q) (PySem.W.funFrames_hide hfun hin) hx λh2 t fly tup tn up=>?_
  have u:=I.base
  rw [hex] at u
  have keepB:∀b o,X.s₀.heap.get? b=some o→X.H₀ b=none→b∉dR X.outer→(PySem.W.hideAll s.heap (dR (X.env::X.outer))).get? b=some o:=λb o e n nf=>by
    refine PySem.W.hideAll_get _ (u.keep b o e n nf (by simp)) λz=>?_
    rcases (kU hfr).mp z with z|z
    · exact I.old e z
    · exact nf z
  have slots:∀b o,s.heap.get? b=some o→b∈dR (X.env::X.outer)→∃sl,h2.get? b=some { o with slots:=sl }:=λb o e hb=>by
    obtain⟨_,o',ho',hd⟩:=hfun.mem hb
    rw [e] at ho'
    cases ho'
    exact up b o (hx.keeps _ _ e) hd
  have thereB:∀b o,X.s₀.heap.get? b=some o→b∉dR X.outer→∃o',(PySem.W.hideAll s.heap (dR (X.env::X.outer))).get? b=some o':=λb o e nf=>by
    obtain⟨o',e1⟩:=u.there b o e (by simp)
    refine⟨o',PySem.W.hideAll_get _ e1 λz=>?_⟩
    rcases (kU hfr).mp z with z|z
    · exact I.old e z
    · exact nf z
  refine⟨ea,t,C,vs,_,H,rfl,I.os,I.bare,fly,tup,tn,IL I fstk,keepB,thereB,?_,hE⟩
  refine⟨λb o e n nf _=>fly.1 _ _ (keepB b o e n nf),λb o e n hb _=>?_,λb o e n _=>u.free b o e n (by simp),λb o e _=>?_,u.jF,u.i3,u.jE⟩
  · obtain⟨sl,e1⟩:=u.slot b o e n hb (by simp)
    obtain⟨sl',e2⟩:=slots b _ e1 ((kU hfr).mpr (.inr hb))
    exact⟨sl',e2⟩
  · obtain⟨o',e1⟩:=u.there b o e (by simp)
    by_cases hb:b∈dR (X.env::X.outer)
    · obtain⟨sl,e2⟩:=slots b _ e1 hb
      exact⟨_,e2⟩
    · exact⟨o',fly.1 _ _ (PySem.W.hideAll_get _ e1 hb)⟩
theorem KS {M:Model}{e:Value}{s':Shared}{E:XK}{EE:Value→Shared→Prop}(hst:X.stack=X.env::X.outer)(hfr:X.env.frame=some X.env.locals)(hex:X.ex=[])(I:Inv X pins σ H s)
    (hc:eh X.prog X.w X.stack H s E e s'):wpAny M X.A (leaving X.env e) (λ_ s''=>eh X.prog X.w X.outer X.H₀ X.s₀ E e s'') EE s':=by
  have hA:X.A.frames=some (X.env::X.outer):=by rw [←hst];exact I.ok.frames
  rw [hst] at hc
  obtain⟨ea,t,C,vs,B,H',rfl,os,bare,fly,tup,tn,bb,kB,tB,un,hE⟩:=hc
  refine wpAny_leaves_onW hA hfr fly λh2 fly2 up=>?_
  have u:=I.base
  rw [hex] at u
  have n2:∀b o,X.s₀.heap.get? b=some o→b∉dR X.outer→b∉dR (X.env::X.outer):=λb o e nf z=>by
    rcases (kU hfr).mp z with z|z
    · exact I.old e z
    · exact nf z
  have keepB:∀b o,X.s₀.heap.get? b=some o→X.H₀ b=none→b∉dR X.outer→B.get? b=some o:=λb o e n nf=>
    kB b o (u.keep b o e n nf (by simp)) (u.free b o e n (by simp)) (n2 b o e nf)
  have thereB:∀b o,X.s₀.heap.get? b=some o→b∉dR X.outer→∃o',B.get? b=some o':=λb o e nf=>by
    obtain⟨o',e1⟩:=u.there b o e (by simp)
    exact tB b o' e1 (n2 b o e nf)
  have slots:∀b o,s'.heap.get? b=some o→b∈dR X.outer→∃sl,h2.get? b=some { o with slots:=sl }:=λb o e hb=>by
    obtain⟨_,o',ho',hd⟩:=fly.2.2.1.mem (show b∈(X.env::X.outer).filterMap (·.frame) from (kU hfr).mpr (.inr hb))
    rw [e] at ho'
    cases ho'
    exact up b o e hd
  refine⟨ea,t,C,vs,B,H',rfl,by rw [os];exact I.os,bare,fly2,tup.of_slots up,tn,bb,keepB,thereB,?_,hE⟩
  refine⟨λb o e n nf _=>fly2.1 _ _ (keepB b o e n nf),λb o e n hb _=>?_,λb o e n _=>?_,λb o e _=>?_,λb zs e=>un.jF b zs (u.jF b zs e),λb o v e=>un.i3 b o v (u.i3 b o v e),λb ps e=>?_⟩
  · obtain⟨sl,e1⟩:=u.slot b o e n hb (by simp)
    have n1:=u.free b o e n (by simp)
    obtain⟨sl2,e2⟩:=un.slot b _ e1 n1 ((kU hfr).mpr (.inr hb)) (by simp)
    obtain⟨sl3,e3⟩:=slots b _ e2 hb
    exact⟨sl3,e3⟩
  · have n1:=u.free b o e n (by simp)
    obtain⟨o',e1⟩:=u.there b o e (by simp)
    exact un.free b o' e1 n1 (by simp)
  · obtain⟨o',e1⟩:=u.there b o e (by simp)
    obtain⟨o2,e2⟩:=un.there b o' e1 (by simp)
    by_cases hb:b∈dR X.outer
    · obtain⟨sl,e3⟩:=slots b _ e2 hb
      exact⟨_,e3⟩
    · obtain⟨o3,e3⟩:=thereB b o e hb
      exact⟨o3,fly2.1 _ _ e3⟩
  · obtain⟨m1,e1⟩:=u.jE b ps e
    obtain⟨m2,e2⟩:=un.jE b _ e1
    exact⟨m1++m2,by rw [e2,Array.append_assoc]⟩
end
noncomputable abbrev Ki:List Value:=[.type "ValueError",.type "Exception",.type "BaseException",.type "object"]
abbrev kL (K:PySem.W.Frag)(C:Addr):Prop:=PySem.W.excIn K C Ki "ValueError.__new__"=true
theorem Jn {K:PySem.W.Frag}{h:Heap}{mg:Str→Option Value}{x:Str}{C:Addr}(X:K.In h)(e:mg x=some (.ref C))(q:kL K C):OwnCls x C Ki "ValueError.__new__" mg h:=by
 refine⟨e,?_⟩
 unfold kL PySem.W.excIn at q
 split at q
 ·rename_i dd cd sl ho
  split at q
  ·rename_i C' bm k0 k1 k2 k3 n k5 hm hs
   simp only [Bool.and_eq_true,beq_iff_eq,Bool.not_eq_true'] at q
   obtain⟨⟨⟨⟨⟨rfl,rfl⟩,hdel⟩,ht⟩,bb⟩,hni⟩:=q
   obtain⟨nm,bs,mro,ns,qn,hd,sn,sub,ab,col,del⟩:=cd
   dsimp only at hm hdel bb hni
   subst hm hdel
   have hsl:sl=#[k0,k1,k2,k3,some (.builtin "ValueError.__new__"),k5]:=by
    obtain⟨l⟩:=sl
    simp only at hs
    rw [hs]
   subst hsl
   exact⟨bm,ns,nm,qn,bs,hd,sn,sub,ab,col,dd,k0,k1,k2,k3,k5,_,X _ _ ho,.of_isNs (PySem.W.isNs_of_in X bb),PySem.W.nsMap_none_of_in X bb hni,PySem.W.tail_of_in X ht⟩
  ·cases q
 ·cases q
def Kh (X:Cx)(E:XK):Prop:=∀(pins:List (Addr×Obj)) (σ:St) (H:Hp) (s:Shared) (h':Heap) (ea:Addr) (C:Value) (vs:List Value),Inv X pins σ H s→Heap.MadeExcOf s.heap h' ea C vs→E C none H→X.xe (.ref ea) { s with heap:=h' }
def Ae (C:Addr)(E:XK)(ta:TA):TS:=λ_ σ H=>ta σ H λvs H1=>vs.length≤sizeLine∧E (.ref C) none H1
section
variable {X:Cx}{x:Str}{C:Addr}{np cpos pos:Pos}{e:Expr}{es:List Expr}{ta:TA}{E:XK}
theorem lj (hT:Kh X E)(hc:X.calm=true)(hg:Gl X x)(hm:X.mg x=some (.ref C))(q:kL X.K C)(ha:PA X (e::es) ta)
    (he:starEach (e::es) X.env=(false,eval e X.env)::starEach es X.env:=by rfl) (hpl:(backTo cpos (starEach es X.env)).any (·.1)=false:=by rfl) (hdb:(x == ("__debug__":Str))=false:=by decide) :
    PS X (.Raise (some (.Call (.Name x np) (e::es) [] cpos)) none pos) (Ae C E ta):=by
  intro pins s σ H D I h
  have O:=Jn I.ok.mod.vg hm q
  obtain⟨tl,N,nm,qq,bs,hdct,sn,sub,ab,col,dd,k0,k1,k2,k3,k5,mN,hC,hN,hni,T⟩:=O.obj
  refine wpAny_Raise_call_subT (C:=C) (nm:=nm) (q:=qq) (N:=N) (bs:=bs) (bm:=tl) (hdct:=hdct) (sn:=sn) (sub:=sub) (ab:=ab) (col:=col) (dd:=dd) (k0:=k0) (k1:=k1) (k2:=k2) (k3:=k3) (k5:=k5)
    PySem.F.excBase_ValueError (mN:=mN) (T.hasType PySem.F.excBase_ValueError.hasBase) (I.ok.hd hc) (by rw [he];show (false || (backTo cpos (starEach es X.env)).any (·.1))=false;rw [hpl];rfl) hni (jc I hg hm ⟨rfl,?_⟩ hdb)
  have ha':=ha cpos pins s σ H _ I h
  rw [he] at ha' ⊢
  exact Calls.evalArgs_plain (bU ha' λus s2 ⟨vs,H1,I1,r,z,hE⟩=>⟨rfl,by rw [←r.length];exact z,I1.bk _ _ hC,hN.keeps I1.bk,T.keeps I1.bk,λh' ea hx=>hT pins σ H1 s2 h' ea _ us I1 hx hE⟩)
end
section
variable {P:Program}{w:World}{K:PySem.W.Frag}{mg:Str→Option Value}{base:Heap}
theorem cD.jM {x qual:Str}{st:Stmt}{f:Addr}{fd:FuncData}{N ps:List Str}{k:Nat}{sp:Sp}(F:cD K x qual st f fd)(S:aK N ps (aj st))(len:∀vs H Q E,sp vs H Q E→vs.length=ps.length)
    (hbody:∀(cdv:Value) (A:Around) (outer:List Env) (s:Shared) (H:Hp) (vs:List V) (Q:VK) (E:XK),en k (A.deeper (envOfC qual (aj st) s.heap.objs.size f cdv))→sp vs H Q E →
      ∃t,mi (oj (eh P w) P w K mg base N qual (aj st) f cdv A outer s H E) (aE st) t∧t { nx:=λ_ H'=>Q .cU H',rt:=Q } (start N vs) H):bc P w K mg base (eh P w) (k+1) f fd ps sp:=by
  obtain⟨oc,od,kV,doc,pm,an,cdv,ct,osl,rfl,lk,hcd⟩:=F.ex
  refine Gs lk hcd S len λA outer s H vs Q E hr hsp=>?_
  obtain⟨t,h,q⟩:=hbody cdv A outer s H vs Q E hr hsp
  exact⟨t,h,q⟩
variable {N:List Str}{qual:Str}{scope:Scope}{f:Addr}{cd:Value}{A:Around}{outer:List Env}{s:Shared}{H:Hp}{E:XK}
theorem ig:Passes (eh P w) (oj (eh P w) P w K mg base N qual scope f cd A outer s H E) E:=λ_ _ _ _ _ _ I hc=>KS rfl rfl rfl I hc
theorem wx:Kh (oj (eh P w) P w K mg base N qual scope f cd A outer s H E) E:=λ_ _ _ _ _ _ _ _ I hx hE=>KW rfl rfl rfl I hx hE
end
theorem oU {P:Program}{w:World}{X:Cx}:Passes (eh P w) X E0:=λ_ _ _ _ _ _ _ hc=>by
 obtain⟨_,_,_,_,_,_,_,_,_,_,_,_,_,_,_,_,hE⟩:=hc
 exact hE.elim
structure gz (P:Program)(w:World)(K:PySem.W.Frag)(mg:Str→Option Value)(base:Heap)(x:Str)(k:Nat)(ps:List Str)(sp:Sp):Prop where
 ex:∃(f:Addr) (fd:FuncData),bc P w K mg base (eh P w) k f fd ps sp∧Binds K fd ps []∧PySem.W.keepIn K (.ref f)=true∧mg x=some (.ref f)
theorem dF {P:Program}{w:World}{K:PySem.W.Frag}{mg:Str→Option Value}{base:Heap}{x qual:Str}{st:Stmt}{f:Addr}{fd:FuncData}{k:Nat}{ps:List Str}{sp:Sp}(F:cD K x qual st f fd)
    (ok:bc P w K mg base (eh P w) k f fd ps sp) (b:Binds K fd ps []) (m:mg x=some (.ref f)):gz P w K mg base x k ps sp:=⟨⟨f,fd,ok,b,F.kp,m⟩⟩
section
variable {X:Cx}{x:Str}{j k:Nat}{ps:List Str}{sp:Sp}{p pos:Pos}{e:Expr}{es:List Expr}{t:TA}{E:XK}
theorem e8 (hx:Passes (eh X.prog X.w) X E)(D:gz X.prog X.w X.K X.mg X.base x j ps sp)(hr:en k X.A)(hg:Gl X x)(ha:PA X (e::es) t)(hjk:j≤k:=by decide)(hdb:(x == ("__debug__":Str))=false:=by decide)
    (he:starEach (e::es) X.env=(false,eval e X.env)::starEach es X.env:=by rfl) (hpl:(backTo pos (starEach es X.env)).any (·.1)=false:=by rfl) :
    PE X (.Call (.Name x p) (e::es) [] pos) (vF sp [] E t):=by
  obtain⟨f,fd,ok,b,kp,m⟩:=D.ex
  exact BS ok (hr.mono hjk) hg m kp b .nil hx ha hdb he hpl
theorem Eu {st:Stmt}{t:TS}(h:PS X.D8 st t):PS X st t:=λpins s σ H D I hw=>
 wpAny_mono (h pins s σ H D (I.nH _) hw) (λ_ _ q=>SP.kH q) λ_ _ z=>z.elim
end
open PySem PySem.Spec PyProof.Rows
noncomputable abbrev Cx.sr (X:Cx) (E:Value→Shared→Prop) (pn:List (Addr×Obj)):Cx:={ X with xe:=E,pn:=pn }
noncomputable abbrev Cx.pM (X:Cx) (e:Value):Cx:={ X with A:=X.A.mark (some e),calm:=false,xe:=λ_ _=>False }
section
variable {X:Cx}{pins pins':List (Addr×Obj)}{σ:St}{H H1 H':Hp}{s s1 s':Shared}{E:Value→Shared→Prop}
theorem Inv.sr (I:Inv X pins σ H s)(E:Value→Shared→Prop):Inv (X.sr E (X.pn++pins)) [] σ H s:=
 ⟨⟨I.ok.mod,I.ok.kind,I.ok.glob,I.ok.blt,I.ok.above,I.ok.inj,I.ok.has,I.ok.tL,I.ok.hd,I.ok.frames,I.ok.vD,I.ok.yL,I.ok.bs,I.ok.nM,I.ok.oq,I.ok.pF,I.ok.i4,I.ok.qo⟩,I.os,I.bare,I.base,I.loc,I.cell,I.free,I.gb,
  λp hp=>I.pin p (by simpa using hp),I.bb,I.len⟩
theorem Inv.rH (I:Inv (X.sr E (X.pn++pins)) pins' σ H s):Inv X pins σ H s:=
 ⟨⟨I.ok.mod,I.ok.kind,I.ok.glob,I.ok.blt,I.ok.above,I.ok.inj,I.ok.has,I.ok.tL,I.ok.hd,I.ok.frames,I.ok.vD,I.ok.yL,I.ok.bs,I.ok.nM,I.ok.oq,I.ok.pF,I.ok.i4,I.ok.qo⟩,I.os,I.bare,I.base,I.loc,I.cell,I.free,I.gb,
  λp hp=>I.pin p (List.mem_append_left _ hp),I.bb,I.len⟩
theorem Inv.pM (I:Inv X pins σ H s)(e:Value):Inv (X.pM e) pins σ H s:=
 ⟨⟨I.ok.mod,I.ok.kind,I.ok.glob,I.ok.blt,I.ok.above,I.ok.inj,I.ok.has,I.ok.tL,λz=>(by cases z),I.ok.frames,I.ok.vD,I.ok.yL,I.ok.bs,I.ok.nM,I.ok.oq,I.ok.pF,I.ok.i4,I.ok.qo⟩,I.os,I.bare,I.base,I.loc,I.cell,I.free,I.gb,
  I.pin,I.bb,I.len⟩
theorem Inv.Jm {hd:X.calm=true→X.A.handled=none}{fr:X.A.frames=some X.stack}{e:Value}(I:Inv (X.pM e) pins σ H s):Inv X pins σ H s:=
 ⟨⟨I.ok.mod,I.ok.kind,I.ok.glob,I.ok.blt,I.ok.above,I.ok.inj,I.ok.has,I.ok.tL,hd,fr,I.ok.vD,I.ok.yL,I.ok.bs,I.ok.nM,I.ok.oq,I.ok.pF,I.ok.i4,I.ok.qo⟩,I.os,I.bare,I.base,I.loc,I.cell,I.free,I.gb,
  I.pin,I.bb,I.len⟩
theorem land {ea t:Addr}{C:Value}{B h5:Heap}(I:Inv X pins σ H1 s1)(os:s'.os=s1.os)(bare:AllBare s'.gens)(fly:Heap.FlyingW B X.stack ea C (.ref t) s'.heap)(gB:B.StaysIn h5)(up:s'.heap.UpToSlots h5)
    (bb:e7 X.prog X.w H' B) (kB:∀b o,s1.heap.get? b=some o→H1 b=none→b∉dR X.stack→B.get? b=some o) (tB:∀b o,s1.heap.get? b=some o→b∉dR X.stack→∃o',B.get? b=some o')
    (un:Un (dR X.stack) [] H1 H' s1.heap s'.heap):Inv X pins σ H' { s' with heap:=h5 }:=by
  have slots:∀b o,s'.heap.get? b=some o→b∈dR X.stack→∃sl,h5.get? b=some { o with slots:=sl }:=λb o e hb=>by
    obtain⟨_,o',ho',hd⟩:=fly.2.2.1.mem hb
    rw [e] at ho'
    cases ho'
    exact up b o e hd
  have un5:Un (dR X.stack) [] H1 H' s1.heap h5:=by
    refine⟨λb o e n nf _=>gB _ _ (kB b o e n nf),λb o e n hb _=>?_,un.free,λb o e _=>?_,un.jF,un.i3,un.jE⟩
    · obtain⟨sl,e1⟩:=un.slot b o e n hb (by simp)
      obtain⟨sl2,e2⟩:=slots b _ e1 hb
      exact⟨sl2,e2⟩
    · by_cases hb:b∈dR X.stack
      · obtain⟨o',e1⟩:=un.there b o e (by simp)
        obtain⟨sl,e2⟩:=slots b _ e1 hb
        exact⟨_,e2⟩
      · obtain⟨o',e1⟩:=tB b o e hb
        exact⟨o',gB _ _ e1⟩
  exact I.ya (s':={ s' with heap:=h5 }) (ch:=[]) os un5 (bb.kept gB) bare λb hb=>by cases hb
theorem Ib {M:Model}{h:Heap}{e:Addr}{o:Obj}{c:Value}(h1:h.get? e=some o)(h2:o.cls=c):PySem.W.Looks M h (typeOf (.ref e)) c:=by
 intro A Q E s k q
 unfold typeOf
 exact wpAny_bind (wpAny_loadPart (k _ _ h1) (wpAny_pure (by rw [h2];exact q)))
def Cj (X:Cx)(EE:St→XK):Prop:=∀(pins:List (Addr×Obj)) (σ:St) (H:Hp) (s:Shared) (e:Value) (s':Shared),Inv X pins σ H s→eh X.prog X.w X.stack H s (EE σ) e s'→X.xe e s'
def zZ (sp:Sp)(EE:St→XK)(t:TA):TE:=λσ H Q=>t σ H λvs H1=>sp vs H1 Q (EE σ)
end
section
variable {X:Cx}{x:Str}{j k:Nat}{ps:List Str}{sp:Sp}{p pos:Pos}{e:Expr}{es:List Expr}{t:TA}{EE:St→XK}
theorem Hv (hx:Cj X EE)(D:gz X.prog X.w X.K X.mg X.base x j ps sp)(hr:en k X.A)(hg:Gl X x)(ha:PA X (e::es) t)(hjk:j≤k:=by decide)(hdb:(x == ("__debug__":Str))=false:=by decide)
    (he:starEach (e::es) X.env=(false,eval e X.env)::starEach es X.env:=by rfl) (hpl:(backTo pos (starEach es X.env)).any (·.1)=false:=by rfl) :
    PE X (.Call (.Name x p) (e::es) [] pos) (zZ sp EE t):=by
  obtain⟨f,fd,F,hb,kp,m⟩:=D.ex
  intro pins s σ H Q I h
  refine wpAny_Call_Name_kw (jc I hg m ?_ hdb)
  refine PySem.W.callWith_K (h₀:=X.base) I.ok.mod.vg kp (bU (ha pos pins s σ H _ I h) λus s1 ⟨vs,H1,I1,r,q⟩=>⟨I1.fA,?_⟩) he hpl
  have hl:us.length=ps.length:=by rw [←r.length];exact F.len _ _ _ _ q
  have hbs:BindsTo s1 fd ⟨us,[]⟩ (ps.zip us):=by
    have:=hb s1 us I1.fA (by rw [List.append_nil];exact hl)
    rwa [List.append_nil] at this
  refine wpAny_call (codeAny_mono (F.run X.A X.stack s1 H1 ⟨us,[]⟩ us vs Q (EE σ) (hr.mono hjk) I1.CA hbs r q) λr s' hq=>?_)
  cases r with
  | error e=>exact hx pins σ H1 s1 e s' I1 hq
  | ok fl=>
    cases fl with
    | ret u=>exact I1.after hq
    | next=>exact False.elim hq
    | brk=>exact False.elim hq
    | cont=>exact False.elim hq
end
section
variable {X:Cx}{body suite:List Stmt}{b₀:Stmt}{D:Addr}{cx:Str}{np hpos pos:Pos}{tb:(St→XK)→TS}{ts:TS}
end
noncomputable def cq (K:PySem.W.Frag)(x:Str):Addr:=match PySem.W.nsIn K mainGlobals x with
 | some (some (.ref C))=>C
 | _=>0
theorem gI {K:PySem.W.Frag}{x:Str}{C:Addr}(h:PySem.W.nsIn K mainGlobals x=some (some (.ref C))):cq K x=C:=by
 unfold cq
 rw [h]
end L2
namespace Xc
open PySem PySem.W PySem.Spec PySem.Calls PyProof.Rows Builtin.ObjectAttr
structure jT (K:Frag)(C:Addr):Prop where
 ga:findIn K (.ref C) "__getattribute__"=some (some (.builtin "BaseException.__getattribute__"))
 gh:findIn K (.ref C) "__getattr__"=some none
 ca:findIn K (.ref C) "__class__"=some (some (.builtin "object.__class__"))
 gg:specialIn K (.builtin "object.__class__") "__get__"=some (some (.builtin "getset_descriptor.__get__"))
 tk:takesIn K (.builtin "object.__class__")=some true
 mo:mroIn K C (.type "object")=some true
 mb:mroIn K C (.type "BaseException")=some true
 hd:hasDictIn K C=true
section
variable {prog:Program}{w:World}{A:Around}{E:Value→Shared→Prop}{s:Shared}{K:Frag}{x C:Addr}{ox:Obj}{odo:Option Obj}
theorem typ {M:Model}{h:Heap}(hx:h.get? x=some ox)(hc:ox.cls = .ref C):Looks M h (typeOf (.ref x)) (.ref C):=hc▸(Looks.ld hx).andThen .now
theorem DQ {M:Model}{h:Heap}(F:jT K C)(X:K.In h):Looks M h (find (.ref x) (.ref C) "__class__") (.bind (.builtin "getset_descriptor.__get__") (.builtin "object.__class__")):=by
 have L1:=looks_findIn (M:=M) X F.ca
 have L2:Looks M h (getOf (some (.builtin "object.__class__"))) (some (.builtin "getset_descriptor.__get__")):=looks_specialIn X F.gg
 have L3:=looks_takesIn (M:=M) X F.tk
 refine L1.andThen (L2.andThen ?_)
 exact (show Looks M h (dataDescriptor? (some (.builtin "object.__class__")) (some (.builtin "getset_descriptor.__get__"))) (some (.builtin "getset_descriptor.__get__",.builtin "object.__class__")) from L3.andThen .now).andThen (Looks.tag .now)
open Builtin Builtin.Getset_descriptor in
theorem He {tp:Value}{R:Result→Shared→Prop}(X:K.In s.heap)(hx:s.heap.get? x=some ox)(hc:ox.cls = .ref C)(hm:mroIn K C (.type "object")=some true)
    (h:R (.ok (.ret (.ref C))) s):codeAny (model prog w) A (.call (.builtin "getset_descriptor.__get__") ⟨[.builtin "object.__class__",.ref x,tp],[]⟩) R s:=by
  obtain⟨hh,g,dr,t,os⟩:=s
  have L0:=typ (M:=model prog w) hx hc
  have L1:=looks_mroIn (M:=model prog w) X hm
  refine codeAny_call_builtin KF.slot_gs.plain KF.entry_gs (KF.slot_gs.check _ _ _ _ _ _ _ _ KF.type_class (KF.args_gs _ _ _) ?_)
  unfold Builtin.«getset_descriptor.__get__» descrGet
  rw [dga_obj]
  refine wpAny_bind (wpAny_pure ?_)
  unfold descrGetter descrCheckInstance descrNameAndClass isInstance
  simp only [KF.owner_class]
  repeat lk
  refine⟨Code.quiet_builtin _ (by decide +kernel),codeAny_builtin KF.entry_class ?_⟩
  unfold Builtin.«object.__class__» shownTypeOf
  repeat lk
  exact h
theorem DN {nameV:Value}{Q:Unit→Shared→Prop}(F:jT K C)(X:K.In s.heap)(hx:s.heap.get? x=some ox)(hc:ox.cls = .ref C)(hq:Q () s) :
    wpAny (model prog w) A (checkBuiltinCall "BaseException.__getattribute__" ⟨[.ref x,nameV],[]⟩) Q E s:=by
  have hk:builtinKind "BaseException.__getattribute__"=some .slot:=by decide +kernel
  have hsplit:splitId "BaseException.__getattribute__"=some ("BaseException","__getattribute__"):=by decide +kernel
  have LI:Looks (model prog w) s.heap (isInstance (.ref x) (.type "BaseException")) true:=(typ (M:=model prog w) hx hc).andThen (looks_mroIn X F.mb)
  have ha:=PySem.F.args_bexc_ga (.ref x) nameV
  obtain⟨hh,g,d,t,os⟩:=s
  simp only [checkBuiltinCall,hk,hsplit]
  refine wpAny_bind (LI.at ?_)
  repeat (first | assumption | wp_step)
  all_goals exact hq
theorem DP {tk:Tok}{Q:Fin→Shared→Prop}(F:jT K C)(X:K.In s.heap)(hx:s.heap.get? x=some ox)(hc:ox.cls = .ref C)(hq:Q (.done (.ret (.ref C))) s) :
    wpAny (model prog w) A (Builtin.«object.__getattribute__» ⟨[.ref x,.str "__class__" tk],[]⟩) Q E s:=by
  have L0:=typ (M:=model prog w) hx hc
  have L1:=DQ (M:=model prog w) (x:=x) F X
  obtain⟨hh,g,d,t,os⟩:=s
  unfold Builtin.«object.__getattribute__»
  refine wpAny_bind (wpAny_pure ?_)
  refine wpAny_bind (wpAny_pure ?_)
  refine wpAny_bind (L0.at ?_)
  refine wpAny_bind (L1.at ?_)
  show wpAny _ _ (holding [Value.builtin "object.__class__"] (call (.builtin "getset_descriptor.__get__") [.builtin "object.__class__",.ref x,.ref C]) >>= ret) _ _ _
  exact wpAny_bind (wpAny_holding (wpAny_call (He X hx hc F.mo (wpAny_pure hq))))
theorem DO {Q:Option Value→Shared→Prop}(F:jT K C)(X:K.In s.heap)(hx:s.heap.get? x=some ox)(hc:ox.cls = .ref C)(h:Q (some (.ref C)) { s with toks:=s.toks+1 }):wpAny (model prog w) A (getAttr? (.ref x) "__class__") Q E s:=by
 have L0:=typ (M:=model prog w) hx hc
 have L1:=looks_findIn (M:=model prog w) X F.ga
 have L2:=looks_findIn (M:=model prog w) X F.gh
 have B:=PySem.F.attrBase_ValueError
 obtain⟨hh,g,d,t,os⟩:=s
 unfold getAttr? getAttrBy? getAttrBy
 refine wpAny_bind (wpAny_mkText (wpAny_bind (wpAny_attempt (wpAny_holding (wpAny_bind (L0.at (wpAny_bind (L1.at ?_))))))))
 have hx2:(Value.builtin "BaseException.__getattribute__" == Value.builtin "object.__getattribute__")=false:=by decide +kernel
 have hx1:(onTheHeap (Value.ref C) && Value.builtin "BaseException.__getattribute__" == Value.builtin "object.__getattribute__")=false:=by rw [hx2];rfl
 show wpAny _ _ (if (onTheHeap (Value.ref C) && Value.builtin "BaseException.__getattribute__" == Value.builtin "object.__getattribute__")=true then _ else getAttrByItsOwn (.ref x) _ (.ref C) (.builtin "BaseException.__getattribute__") false false) _ _ _
 rw [hx1,if_neg (by decide)]
 unfold getAttrByItsOwn
 refine wpAny_bind ?_
 show wpAny _ _ (typeLookup (.ref C) "__getattr__") _ _ _
 refine L2.at ?_
 refine wpAny_bind (wpAny_attempt (wpAny_holding ?_))
 show wpAny _ _ (boundAndCalled (.builtin "BaseException.__getattribute__") (.ref x) _) _ _ _
 unfold boundAndCalled
 refine wpAny_bind (wpAny_of_eq (B.ga.bind (.ref x)) ?_)
 refine wpAny_call (codeAny_call_builtin B.ga.plain PySem.F.entry_bexc_ga (DN F (s:=⟨hh,g,d,t+1,os⟩) X hx hc (DP F (s:=⟨hh,g,d,t+1,os⟩) X hx hc ?_)))
 show wpAny _ _ (handedOut (.ref C)) _ _ _
 exact handed_on rfl (wpAny_pure h)
theorem Fs (F:jT K C):KitX K (.ref x) (.ref C) (λh=>∃ox,h.get? x=some ox∧ox.cls = .ref C) where
 ty:=λ_ _ _ ⟨_,hx,hc⟩=>typ hx hc
 it:=λ_ _ X _=>by
  obtain⟨cdD,hcD,_⟩:=any_some F.hd
  unfold clsIn at hcD
  split at hcD
  ·rename_i c' d' cd' sl' ho
   intro A' Q' E' s' k q
   unfold isType loadHead
   exact wpAny_bind (wpAny_loadPart (k _ _ (X _ _ ho)) (wpAny_pure q))
  ·cases hcD
 ne:=λh tp dd its n sl X htp=>by
  obtain⟨cdD,hcD,_⟩:=any_some F.hd
  refine Bool.eq_false_iff.mpr λq=>?_
  have e:C=tp:=Value.ref.inj (beq_iff_eq.mp q)
  subst e
  unfold clsIn at hcD
  split at hcD
  ·rename_i c' d' cd' sl' ho
   have z:=(X _ _ ho).symm.trans htp
   cases z
  ·cases hcD
 ca:=λX ⟨_,hx,hc⟩ k=>DO F X hx hc k
end
end Xc
namespace L2
open PySem PySem.Spec PyProof.Rows
noncomputable def vL (a C:Addr):HO:=.ext λh=>∃ox:Obj,h.get? a=some ox∧ox.cls = .ref C
section
variable {X:Cx}{pins:List (Addr×Obj)}{σ:St}{H H1 H':Hp}{s s1 s':Shared}
theorem A9 {P:Program}{w:World}{H:Hp}{h:Heap}{a:Addr}{o:HO}(x:cT P w H h a o):∃ob,h.get? a=some ob:=by
 cases o with
 | lst xs=>obtain⟨_,_,_,_,e⟩:=x;exact⟨_,e⟩
 | tup xs=>obtain⟨_,_,_,p⟩:=x;obtain⟨o,e,_⟩:=p;exact⟨o,e⟩
 | dK kvs=>obtain⟨_,_,_,_,o,_,_,e,_⟩:=x;exact⟨_,e⟩
 | dT kvs=>obtain⟨_,_,_,_,o,_,_,e,_⟩:=x;exact⟨_,e⟩
 | set S n=>obtain⟨o,_,_,_,e,_⟩:=x;exact⟨_,e⟩
 | ins C dx fs=>obtain⟨_,_,_,e,_⟩:=x;exact⟨_,e⟩
 | own y=>obtain⟨_,e⟩:=x;exact⟨_,e⟩
 | xd fs=>obtain⟨_,⟨_,_,_,e,_⟩,_⟩:=x;exact⟨_,e⟩
 | GA lo hi=>obtain⟨_,_,_,e⟩:=x;exact⟨_,e⟩
 | mZ ob u=>obtain⟨e,_⟩:=x;exact⟨_,e⟩
 | xm ps=>exact⟨_,show h.get? a=some _ from x⟩
 | met f y=>exact⟨_,show h.get? a=some _ from x⟩
 | ext φ=>obtain⟨_,⟨_,e⟩,_⟩:=x;exact⟨_,e⟩
theorem JU {ea t Ca:Addr}{B h5:Heap}(I:Inv X pins σ H1 s1)(os:s'.os=s1.os)(bare:AllBare s'.gens)(fly:Heap.FlyingW B X.stack ea (.ref Ca) (.ref t) s'.heap)(fly5:Heap.FlyingW B X.stack ea (.ref Ca) (.ref t) h5)(up:s'.heap.UpToSlots h5)
    (bb:e7 X.prog X.w H' B) (kB:∀b o,s1.heap.get? b=some o→H1 b=none→b∉dR X.stack→B.get? b=some o) (tB:∀b o,s1.heap.get? b=some o→b∉dR X.stack→∃o',B.get? b=some o')
    (un:Un (dR X.stack) [] H1 H' s1.heap s'.heap):H' ea=none∧Inv X pins σ (upd H' ea (vL ea Ca)) { s' with heap:=h5 }:=by
  have gB:=fly5.1
  have hn:H' ea=none:=by
    cases q:H' ea with
    | none=>rfl
    | some o=>
      have h1:=(bb ea o q).lt
      obtain⟨ob,hob⟩:∃ob,B.get? ea=some ob:=by
        have:=bb ea o q
        exact A9 this
      rw [fly.2.1] at hob
      cases hob
  have new:∀b o,s1.heap.get? b=some o→b≠ea:=λb o e z=>by
    subst z
    by_cases hb:b∈dR X.stack
    · obtain⟨_,o',ho',hd⟩:=fly.2.2.1.mem hb
      obtain⟨oe,vs,h1,_,h2,_⟩:=fly.first
      rw [h1] at ho'
      cases ho'
      exact hd _ h2
    · obtain⟨o',e1⟩:=tB b o e hb
      rw [fly.2.1] at e1
      cases e1
  have slots:∀b o,s'.heap.get? b=some o→b∈dR X.stack→∃sl,h5.get? b=some { o with slots:=sl }:=λb o e hb=>by
    obtain⟨_,o',ho',hd⟩:=fly.2.2.1.mem hb
    rw [e] at ho'
    cases ho'
    exact up b o e hd
  have un5:Un (dR X.stack) [] H1 (upd H' ea (vL ea Ca)) s1.heap h5:=by
    refine⟨λb o e n nf _=>gB _ _ (kB b o e n nf),λb o e n hb _=>?_,λb o e n hx=>by rw [aI (new b o e)];exact un.free b o e n hx,λb o e _=>?_,
      λb zs e=>by have q:=un.jF b zs e;rw [aI (cf q hn)];exact q,λb o v e=>by have q:=un.i3 b o v e;rw [aI (cf q hn)];exact q,λb ps e=>?_⟩
    · obtain⟨sl,e1⟩:=un.slot b o e n hb (by simp)
      obtain⟨sl2,e2⟩:=slots b _ e1 hb
      exact⟨sl2,e2⟩
    · by_cases hb:b∈dR X.stack
      · obtain⟨o',e1⟩:=un.there b o e (by simp)
        obtain⟨sl,e2⟩:=slots b _ e1 hb
        exact⟨_,e2⟩
      · obtain⟨o',e1⟩:=tB b o e hb
        exact⟨o',gB _ _ e1⟩
    · obtain⟨more,q⟩:=un.jE b ps e
      exact⟨more,by rw [aI (cf q hn)];exact q⟩
  have hok5:e7 X.prog X.w (upd H' ea (vL ea Ca)) h5:=λa o e=>by
    by_cases ha:a=ea
    · subst ha
      rw [aS] at e
      cases e
      obtain⟨oe,vs,h1,h2,_⟩:=fly5.first
      exact⟨⟨oe,h1,h2⟩,⟨oe,h1⟩,λh1 h2 ⟨ox,e1,e2⟩ k=>⟨ox,k ox e1,e2⟩⟩
    · rw [aI ha] at e
      have q:cT X.prog X.w H' B a o:=bb a o e
      refine q.gB (λc u hc e'=>gB _ _ e') (λc e'=>?_) λc zs e'=>?_
      · rw [aI (cf e' hn)];exact e'
      · rw [aI (cf e' hn)];exact e'
  exact⟨hn,I.ya (s':={ s' with heap:=h5 }) (ch:=[]) os un5 hok5 bare λb hb=>by cases hb⟩
theorem IF {M:Model}{A:Around}{E:Value→Shared→Prop}{i:Nat}{x:Str}{pos:Pos}{Q:Unit→Shared→Prop}{v:V}(I:Inv X pins σ H s)(hN:X.N.Nodup)(hi:X.N[i]?=some x)(hk:X.env.scope.names.lookup x=some .local)(hv:σ[i]?=some (some v))
    (h:∀s',Inv X pins (σ.set i none) H s'→Q () s'):wpAny M A (unbindBehindTheSuite X.env x pos) Q E s:=by
  obtain⟨m,hn,hl⟩:=id I.loc
  have hcls:(X.env.scope.kind == .class || (X.env.scope.kind == .module && X.env.locals != X.env.globals))=false:=by rw [I.ok.kind];rfl
  have hiσ:i<σ.length:=by rw [I.len];exact (List.getElem?_eq_some_iff.mp hi).1
  have qX:=I.qX
  obtain⟨u,_,lk⟩:=hl i x v hi hv (.inl hk)
  have hmx:m x=some u:=by
    rcases lk with⟨_,e⟩|⟨z,_⟩
    · exact e
    · have hk':X.env.kindOf x=some .local:=hk
      rw [hk'] at z
      rcases z with z|z<;>cases z
  have tracked:∀{a:Addr} {h':Heap},(∃o,s.heap.get? a=some o∧H a=none)→Heap.SameBut a s.heap h'→e7 X.prog X.w H h':=λ{a h'} ha hs b ob e=>by
    obtain⟨_,_,hfree⟩:=ha
    refine (I.bb b ob e).gB (λc w' hc q=>(hs.2 c ?_).trans q) (λ_ q=>q) λ_ _ q=>q
    rintro rfl
    rcases hc with rfl|hc
    · rw [hfree] at e;cases e
    · rw [hfree] at hc;cases hc
  unfold unbindBehindTheSuite
  refine wpAny_onRaise (wpAny_unbindName_local hk hn hmx hcls λh' u' hn' hs=>?_)
  obtain⟨oL,_,_,hoL,_⟩:=id hn
  refine h _ ⟨I.ok,I.os,I.bare,⟨λb o e n hb hx=>?_,λb o e n hb hx=>?_,I.base.free,λb o e hx=>?_,I.base.jF,I.base.i3,I.base.jE⟩,⟨_,hn',λj y v' e1 e2 e3=>?_⟩,λy c e=>?_,I.free,I.gb,λp hp=>?_,tracked ⟨oL,hoL,I.free⟩ hs,by simpa using I.len⟩
  · exact (hs.2 b (Nat.ne_of_lt (Nat.lt_of_lt_of_le (Heap.lt_size e) I.ok.above))).trans (I.base.keep b o e n hb hx)
  · obtain⟨sl,e1⟩:=I.base.slot b o e n hb hx
    exact⟨sl,(hs.2 b (Nat.ne_of_lt (Nat.lt_of_lt_of_le (Heap.lt_size e) I.ok.above))).trans e1⟩
  · obtain⟨o',e1⟩:=I.base.there b o e hx
    exact⟨o',(hs.2 b (Nat.ne_of_lt (Nat.lt_of_lt_of_le (Heap.lt_size e) I.ok.above))).trans e1⟩
  · by_cases hj:j=i
    · subst hj
      rw [List.getElem?_set_self hiσ] at e2
      cases e2
    · rw [List.getElem?_set_ne (Ne.symm hj)] at e2
      obtain⟨u2,r',q⟩:=hl j y v' e1 e2 e3
      refine⟨u2,r',?_⟩
      rcases q with⟨k,e⟩|⟨k,c,e,z⟩
      · refine .inl ⟨k,?_⟩
        have:y≠x:=λe=>hj (ui hN e1 (e▸hi))
        simp [this,e]
      · exact .inr ⟨k,c,e,z.sameBut hs (qX y c e)⟩
  · obtain⟨w',z⟩:=I.cell y c e
    exact⟨w',z.sameBut hs (qX y c e)⟩
  · obtain⟨e,n,ne,nf,d⟩:=I.pin p hp
    exact⟨(hs.2 p.1 ne).trans e,n,ne,nf,d⟩
theorem hZ {K:PySem.W.Frag}(hK:X.K=K):fz X (.builtin "isinstance") (λxs H Q=>∃a y,xs=[.ref a,y]∧sx y=true∧∃C,H a=some (vL a C)∧Xc.jT K C∧∃b,PySem.W.kitOne K (.ref C) (vQ y)=some b∧Q (.bl b) H):=by
 subst hK
 intro pins s σ H xs us Q I r h
 obtain⟨a,y,rfl,hy,C,ho,F,b,e,q⟩:=h
 obtain⟨u,w',rfl,rx,ry⟩:=vals2 r
 have ec:w'=vQ y:=by
  cases y<;>first
   | (simp [sx] at hy;done)
   | exact ry
 subst ec
 cases (show u=Value.ref a from rx)
 obtain⟨⟨ox,h1,h2⟩,_⟩:=(show cT X.prog X.w H s.heap a (vL a C) from I.bb a _ ho)
 exact PySem.W.kia_one (Xc.Fs F) I.fA ⟨ox,h1,h2⟩ e (λz=>nomatch z) λtk=>⟨.bl b,H,I.tok tk,rfl,q⟩
end
section
variable {X:Cx}{body suite:List Stmt}{b₀:Stmt}{D:Addr}{cx n:Str}{i:Nat}{np hpos pos:Pos}{tb:(St→XK)→TS}{ts:TS}
noncomputable def Ends.gone (En:Ends)(i:Nat):Ends:=⟨λσ H=>En.nx (σ.set i none) H,En.rt,λσ H=>En.bk (σ.set i none) H,λσ H=>En.ct (σ.set i none) H⟩
def Af (K:PySem.W.Frag)(D:Addr)(i:Nat)(tb:(St→XK)→TS)(ts:TS):TS:=λEn σ H=>
 tb (λσ1 C _ H1=>PySem.W.exmOne K C (.ref D)=some true∧∃Ca,C = .ref Ca∧∀ea,H1 ea=none→ts (En.gone i) (σ1.set i (some (.ref ea))) (upd H1 ea (vL ea Ca))) En σ H
theorem zL (hst:X.stack=X.env::X.outer)(hfr:X.env.frame=some X.env.locals)(hg:Gl X cx)(hm:X.mg cx=some (.ref D))(hN:X.N.Nodup)(hi:X.N[i]?=some n)(hk:X.env.scope.names.lookup n=some .local)
    (hb:∀E pn EE,Cj (X.sr E pn) EE→mi (X.sr E pn) body (tb EE)) (hs:∀e,mi (X.pM e) (b₀::suite) ts) (hdb:(cx == ("__debug__":Str))=false:=by decide) :
    PS X (.Try body [.ExceptHandler (some (.Name cx np)) (some n) (b₀::suite) hpos] [] [] pos) (Af X.K D i tb ts):=by
  intro pins s σ H En I h
  refine wpAny_Try_except (wpAny_mono (hb (λe s₁=>wpAny (model X.prog X.w) X.A (noteFrame e X.env) (λ_ s₂=>wpAny (model X.prog X.w) X.A (setFlight e none) (λ_ s₃=>
    wpAny (model X.prog X.w) X.A (handleBy e X.env [.ExceptHandler (some (.Name cx np)) (some n) (b₀::suite) hpos]) (SP X pins En) X.xe s₃) X.xe s₂) X.xe s₁) (X.pn++pins) _ ?_ [] s σ H En (I.sr _) h) (λf s1 hq=>?_) λe s1 hq=>hq)
  · intro pins' σ1 H1 s1 e s' I1 hc
    have J:=I1.rH
    obtain⟨ea,t,C,vs,B,H',rfl,os,bare,fly,tup,tn,bb,kB,tB,un,hmt,Ca,rfl,hts⟩:=hc
    have fly':Heap.FlyingW B (X.env::X.outer) ea (.ref Ca) (.ref t) s'.heap:=by rw [←hst];exact fly
    refine wpAny_looks_onW (by rw [←hst];exact I.ok.frames) hfr fly' λh4 held4 up4=>?_
    refine wpAny_landsW held4 λh5 fly5 up5=>?_
    have up:=up4.trans up5
    have J5:Inv X pins σ1 H' { s' with heap:=h5 }:=land J os bare fly fly5.1 up bb kB tB un
    obtain⟨ob,hob,hobc⟩:=fly5.there
    refine wpAny_handleBy_cons (codeAny_handlers_test (jc (J5.pM (.ref ea)) hg hm ?_ hdb)) (by intro q;cases q)
    refine (PySem.W.exm_one J5.fA (Ib hob hobc) hmt).at ?_
    refine codeAny_handlers_suite_as ?_
    refine lands_againW fly5 λh6 fly6 up6=>?_
    obtain⟨hn,J6⟩:=JU J os bare fly (by rw [hst];exact fly6) (up.trans up6) bb kB tB un
    refine nF (v:=.ref ea) J6 hN hi (.inl hk) rfl (λs6 J7=>?_) (.inr hk)
    refine wpAny_mono (hs (.ref ea) pins s6 _ _ (En.gone i) (J7.pM _) (hts ea hn)) (λf s7 h7=>?_) λ_ _ z=>z.elim
    show wpAny _ X.A (do bindName X.env n .none;unbindBehindTheSuite X.env n hpos) (λ_ s₃=>SP X pins En f s₃) X.xe s7
    have fin:∀(σ7:St) (H7:Hp) (R:Shared→Prop),Inv (X.pM (.ref ea)) pins σ7 H7 s7→(∀s8,Inv X pins (σ7.set i none) H7 s8→R s8)→wpAny (model X.prog X.w) X.A (do bindName X.env n .none;unbindBehindTheSuite X.env n hpos) (λ_ s8=>R s8) X.xe s7:=λσ7 H7 R I7 k=>by
      have I8:=I7.Jm (hd:=I.ok.hd) (fr:=I.ok.frames)
      refine wpAny_bind (wpAny_bindName (nF (v:=.cU) I8 hN hi (.inl hk) rfl (λs8 I9=>?_) (.inr hk)))
      have hil:i<σ7.length:=by rw [I8.len];exact (List.getElem?_eq_some_iff.mp hi).1
      refine IF I9 hN hi hk (v:=.cU) (by rw [List.getElem?_set_self hil]) λs9 I10=>k s9 ?_
      rw [List.set_set] at I10
      exact I10
    cases f with
    | next=>obtain⟨σ7,H7,I7,q7⟩:=h7;exact fin σ7 H7 _ I7 λs8 I8=>⟨_,H7,I8,q7⟩
    | brk=>obtain⟨σ7,H7,I7,q7⟩:=h7;exact fin σ7 H7 _ I7 λs8 I8=>⟨_,H7,I8,q7⟩
    | cont=>obtain⟨σ7,H7,I7,q7⟩:=h7;exact fin σ7 H7 _ I7 λs8 I8=>⟨_,H7,I8,q7⟩
    | ret u=>obtain⟨v,σ7,H7,I7,r7,q7⟩:=h7;exact fin σ7 H7 _ I7 λs8 I8=>⟨v,_,H7,I8,r7,q7⟩
  · cases f with
    | next=>obtain⟨σ7,H7,I7,q7⟩:=hq;exact wpAny_execs_nil ⟨σ7,H7,I7.rH,q7⟩
    | brk=>obtain⟨σ7,H7,I7,q7⟩:=hq;exact⟨σ7,H7,I7.rH,q7⟩
    | cont=>obtain⟨σ7,H7,I7,q7⟩:=hq;exact⟨σ7,H7,I7.rH,q7⟩
    | ret u=>obtain⟨v,σ7,H7,I7,r7,q7⟩:=hq;exact⟨v,σ7,H7,I7.rH,r7,q7⟩
end
theorem ia.Iu {K:PySem.W.Frag}{H:Hp}:∀bs:List Bool,ia K H (bs.map V.bl) (bs.map PyData.bool)
 | []=>.nil
 | b::r=>.cons (.bl b) (ia.Iu r)
theorem uX:∀bs:List Bool,PyData.canLayAll0 (bs.map PyData.bool)=true
 | []=>by simp [PyData.canLayAll0]
 | b::r=>by simp [PyData.canLayAll0,PyData.canLay0,uX r]
theorem wV:∀bs:List Bool,PyData.depthAll (bs.map PyData.bool)=0
 | []=>by simp [PyData.depthAll]
 | b::r=>by simp [PyData.depthAll,PyData.depth,wV r]
theorem u4:∀bs:List Bool,PyData.eqvAll (bs.map PyData.bool) (bs.map PyData.bool)=true
 | []=>by simp [PyData.eqvAll]
 | b::r=>by simp [PyData.eqvAll,PyData.eqv,u4 r]
theorem Ky {K:PySem.W.Frag}{H:Hp}{a b:Addr}{Q:VK}(bs:List Bool)(h:az K H a (bs.map V.bl))(h':az K H b (bs.map V.bl))(q:Q (.bl true) H):zM K false (.ref a) (.ref b) H Q:=by
 have sh:SeqAt.shaped (.list (bs.map PyData.bool))=true:=by
  unfold SeqAt.shaped
  simp [PyData.canLay0,PyData.depth,uX,wV]
 refine⟨_,_,.lst h (ia.Iu bs),.lst h' (ia.Iu bs),sh,sh,?_⟩
 rw [if_neg (by decide)]
 have e:PyData.eqv (.list (bs.map PyData.bool)) (.list (bs.map PyData.bool))=true:=by
  simp only [PyData.eqv]
  exact u4 bs
 rw [e]
 exact q
open PySem PySem.Spec PyProof.Rows
section
variable {X:Cx}
end
open PySem PySem.Spec PyProof.Rows
section
variable {X:Cx}{pins:List (Addr×Obj)}{σ:St}{H:Hp}{s:Shared}{h':Heap}
theorem Inv.HY {t':Nat}{a e it:Addr}{o:HO}(I:Inv X pins σ H s)(k:∀b u,b≠e→b≠it→s.heap.get? b=some u→h'.get? b=some u)(ha:a=s.heap.objs.size)(new:cT X.prog X.w (upd H a o) h' a o)(fe:gF X pins H e)(fi:gF X pins H it) :
    Inv X pins σ (upd H a o) { s with heap:=h',toks:=t' }:=by
  have hnone:H a=none:=I.bb.fresh (by rw [ha];exact Nat.le_refl _)
  have lts:∀b u,s.heap.get? b=some u→b≠a:=λb u q=>by rw [ha];exact Nat.ne_of_lt (Heap.lt_size q)
  have nin:∀b,b∉[e,it]→b≠e∧b≠it:=λb hb=>⟨λz=>hb (by simp [z]),λz=>hb (by simp [z])⟩
  have ntr:∀b u,H b=some u→b≠e∧b≠it:=λb u q=>⟨cf q fe.1,cf q fi.1⟩
  refine I.step (g':=s.gens) (d':=s.drawn) (ch:=[e,it]) (λb hb=>?_) (λb u _ _ hc q _=>k b u (nin b hc).1 (nin b hc).2 q) (λb u _ _ hc q _=>⟨u.slots,k b u (nin b hc).1 (nin b hc).2 q⟩) (λb u _ q n=>by rw [aI (lts b u q)];exact n)
    (λb u hc q=>⟨u,k b u (nin b hc).1 (nin b hc).2 q⟩) (λb zs q=>by rw [aI (cf q hnone)];exact q) (λb u v q=>by rw [aI (cf q hnone)];exact q) (λb ps q=>⟨#[],by rw [aI (cf q hnone),q];simp⟩) (λm hm=>?_) (λb u q=>?_) I.bare
  · have fb:gF X pins H b:=by
      rcases List.mem_cons.mp hb with z|z
      · rw [z];exact fe
      · rw [List.mem_singleton.mp z];exact fi
    obtain⟨f0,f1,f2,f3,f4,f5⟩:=fb
    exact⟨f3,f1,f4,f5⟩
  · obtain⟨u,es,ep,ho,r⟩:=hm
    exact⟨u,es,ep,k _ u (Ne.symm fe.2.1) (Ne.symm fi.2.1) ho,r⟩
  · by_cases hb:b=a
    · subst hb
      rw [aS] at q
      cases q
      exact new
    · rw [aI hb] at q
      have w:cT X.prog X.w H s.heap b u:=I.bb b u q
      have ntr':∀c,(c=b∨∃u,H c=some u)→c≠e∧c≠it:=λc hc=>by
        rcases hc with z|⟨_,z⟩
        · rw [z];exact ntr b u q
        · exact ntr c _ z
      refine w.gB (λc v hc q'=>k c v (ntr' c ?_).1 (ntr' c ?_).2 q') (λc q'=>?_) λc zs q'=>?_
      · rcases hc with z|z
        · exact .inl z
        · exact .inr ⟨_,z⟩
      · rcases hc with z|z
        · exact .inl z
        · exact .inr ⟨_,z⟩
      · rw [aI (cf q' hnone)];exact q'
      · rw [aI (cf q' hnone)];exact q'
end
noncomputable def yk (K:PySem.W.Frag)(a:Addr):It:=
 ⟨λi H=>∃xs x,az K H a xs∧xs[i]?=some x,λi H x H'=>∃y t,(∀xs,az K H a xs→xs[i]?=some y)∧H t=none∧x = .ref t∧H'=upd H t (.tup [.int (i:Int),y]),λi H=>∃xs,az K H a xs∧xs.length≤i⟩
theorem EK {P:Program}{w:World}{K:PySem.W.Frag}{elts:List Expr}{x1}{tp:Pos}(a e it:Addr)(hne:e≠it):Turn P w K (.Tuple elts x1 tp) (yk K a) [e,it] e (λi h=>(∃old,IsEnum h e it ((i:Nat):Int) old)∧h.IsListIter it a i) where
 mem:=by simp
 obj:=λi h st b hb=>by
  obtain⟨⟨old,he⟩,o,ho,c,d⟩:=st
  rcases List.mem_cons.mp hb with z|z
  ·subst z
   exact⟨_,he,λv z=>by
    have z':Data.fields _=Data.cell v:=z
    cases z'⟩
  ·rw [List.mem_singleton.mp z]
   exact⟨o,ho,λv z=>by rw [d] at z;cases z⟩
 keep:=λi h h' st k=>by
  obtain⟨⟨old,he⟩,hi⟩:=st
  exact⟨⟨old,k e (by simp) _ he⟩,hi.at λo q=>k it (by simp) o q⟩
 item:=by
  intro X hP hw hK hc i pins s σ H E I hf st hg
  subst hP hw hK
  obtain⟨xs,x,hq,hx⟩:=hg
  obtain⟨its,rv,p,hz⟩:=I.list hq
  obtain⟨u,hu,ru⟩:=rv.get hx
  obtain⟨⟨old,he⟩,hit⟩:=st
  have fe:=hf e (by simp)
  have fi:=hf it (by simp)
  have hel:e<s.heap.objs.size:=Heap.lt_size he
  refine wpAny_pyNext_enum_item he hit p.isList (x:=u) (by simpa using hu) hne λh1 he1 hit1 ht1 hz1 hk1=>⟨_,rfl,?_⟩
  refine wpAny_letOwnedTupleGo_enum he1 λh2 he2 hs2=>?_
  have hs2':Heap.SameBut e h1 h2:=hs2
  have hnone:H s.heap.objs.size=none:=I.bb.fresh (Nat.le_refl _)
  refine⟨.ref s.heap.objs.size,upd H s.heap.objs.size (.tup [.int (i:Int),x]),I.HY (t':=s.toks+1) (e:=e) (it:=it) (λb o hb1 hb2 q=>(hs2'.2 b hb1).trans (hk1 b o hb1 hb2 q)) rfl ?_ fe fi,rfl,⟨x,_,λys hy=>by rw [I.pR hy hq];exact hx,hnone,rfl,rfl⟩,⟨⟨_,by rw [Int.natCast_add];exact he2⟩,hit1.extBut hs2'.extBut (Ne.symm hne)⟩,λb hb=>?_⟩
  ·exact⟨by show 2≤sizeLine;decide,[.int i s.toks,u],.cons ⟨_,rfl⟩ (.cons ru .nil),⟨_,(hs2'.2 _ (Nat.ne_of_gt hel)).trans ht1,rfl,_,rfl⟩⟩
  ·have hb0:H b=none:=(hf b hb).1
   have hbl:b<s.heap.objs.size:=by
    rcases List.mem_cons.mp hb with z|z
    ·rw [z];exact hel
    ·rw [List.mem_singleton.mp z]
     obtain⟨o,ho,_⟩:=id hit
     exact Heap.lt_size ho
   rw [aI (Nat.ne_of_lt hbl)]
   exact hb0
 done:=by
  intro X hP hw hK hc i pins s σ H E I hf st hg
  subst hP hw hK
  obtain⟨xs,hq,hx⟩:=hg
  obtain⟨its,rv,p,hz⟩:=I.list hq
  obtain⟨⟨old,he⟩,hit⟩:=st
  obtain⟨f0,f1,f2,f3,f4,f5⟩:=hf it (by simp)
  have hl:=rv.length
  exact wpAny_pyNext_enum_end (I.ok.hd hc) he hit p.isList (by simp;omega) λh' eb=>⟨rfl,I.turned (t':=s.toks) (λb o hb q=>eb b o hb q) f0 f1 f3 f4 f5⟩
 self:=λ_ _ _ _ _ ⟨⟨_,he⟩,_⟩ h=>wpAny_pyIter_enum he h
section
variable {X:Cx}{e:Expr}{te:TE}{p p2 pos pos2:Pos}
def yc (K:PySem.W.Frag)(tl:TE):TI:=λσ H R=>tl σ H λx H1=>∃a,x = .ref a∧(∃xs,az K H1 a xs)∧R (yk K a) H1
theorem sH {elts:List Expr}{x1}{tp:Pos}(hg:Gl X "enumerate")(hm:X.mg "enumerate"=none)(he:PE X e te)(hs:starEach [e] X.env=(false,eval e X.env)::starEach [] X.env:=by rfl):PI X (.Tuple elts x1 tp) (.Call (.Name "enumerate" p) [e] [] pos) (yc X.K te):=by
 intro pins s σ H R I h
 refine wpAny_Call_Name_kw (kq I hg hm PyProof.Rows.boot_enumerate ?_ (by decide) (by decide))
 refine PyProof.Rows.callWith_type1 (bU (aa he ae hs pos pins s σ H (λvs H1=>∃a,vs=[.ref a]∧(∃xs,az X.K H1 a xs)∧R (yk X.K a) H1) I ?_) λus s1 ⟨vs,H1,I1,r1,q1⟩=>?_) hs rfl
 ·show te σ H _
  have e2:(λx H1=>pX σ H1 λxs H2=>(λvs H1=>∃a,vs=[V.ref a]∧(∃xs,az X.K H1 a xs)∧R (yk X.K a) H1) (x::xs) H2)=λx H1=>∃a,x=V.ref a∧(∃xs,az X.K H1 a xs)∧R (yk X.K a) H1:=by
   funext x H1
   simp only [pX,List.cons.injEq,and_true]
  have:=h
  unfold yc at this
  rw [←e2] at this
  exact this
 ·obtain⟨a,rfl,⟨xs,hq⟩,hR⟩:=q1
  obtain⟨u,rfl,ru⟩:=vals1 r1
  cases ru
  obtain⟨its,rv,pl,hz⟩:=I1.list hq
  refine call_enumerate_list pl.isList λh' he' hit hz' hk=>?_
  refine wpAny_pyIter_enum he' ?_
  refine⟨s1.heap.objs.size+1,[s1.heap.objs.size+1,s1.heap.objs.size],_,_,H1,rfl,I1.kept (t':=s1.toks) hk,EK a _ _ (Nat.succ_ne_self _),⟨⟨_,he'⟩,hit⟩,λb hb=>?_,hR⟩
  rcases List.mem_cons.mp hb with z|z
  ·rw [z];exact I1.pH (Nat.le_succ _) (I1.bb.fresh (Nat.le_succ _))
  ·rw [List.mem_singleton.mp z];exact I1.pH (Nat.le_refl _) (I1.bb.fresh (Nat.le_refl _))
end
theorem Ff {K:PySem.W.Frag}{a:Addr}{g:TG}{tb:TS}{D:Ends}{σ:St}{H:Hp}(ns:List Int)(Pv:Nat→St→Hp→Prop)(h0:Pv 0 σ H)(hl:∀i σ H,Pv i σ H→az K H a (ns.map V.int))
    (hs:∀i (x:Int) σ H t H',ns[i]?=some x→Pv i σ H→aL H H'→H' t=some (.tup [.int (i:Int),.int x])→g (.ref t) σ H' λσ2 H2=>tb { D with nx:=Pv (i+1),ct:=Pv (i+1),bk:=D.nx } σ2 H2) (hd:∀σ H,Pv ns.length σ H→D.nx σ H) :
    pj (yk K a) g tb D σ H:=by
  refine⟨λi m σ H=>m=ns.length-i∧i≤ns.length∧Pv i σ H,⟨ns.length,by simp,Nat.zero_le _,h0⟩,?_⟩
  rintro i m σ H ⟨rfl,hi,p⟩
  have q:=hl i σ H p
  by_cases hlt:i<ns.length
  · have hx:ns[i]?=some ns[i]:=List.getElem?_eq_getElem hlt
    have hx':(ns.map V.int)[i]?=some (.int ns[i]):=by rw [List.getElem?_map,hx];rfl
    refine .inr ⟨⟨_,_,q,hx'⟩,Pv (i+1),λσ' H' p'=>⟨ns.length-(i+1),by omega,rfl,hlt,p'⟩,λx H' y=>?_⟩
    obtain⟨y,t,hy,ht,rfl,rfl⟩:=y
    have hy:=hy _ q
    rw [hx'] at hy
    cases hy
    exact hs i _ σ H t _ hx p (ly ht _) aS
  · have e:i=ns.length:=by omega
    subst e
    exact .inl ⟨⟨_,q,by simp⟩,hd σ H p⟩
section
variable {X:Cx}{e lo hi st:Expr}{te:TE}{tl th tk:TO}{pos p2:Pos}
theorem rW:∀{vs:List Value} {ns:List Int},IntsAre vs ns→Vals (ns.map V.int) vs
 | _,_,.nil=>.nil
 | _,_,.cons n t r=>.cons ⟨t,rfl⟩ (rW r)
end
section
variable {X:Cx}
def CU (K:PySem.W.Frag):R2:=λx y H Q=>∃p xs i v,x = .ref p∧y = .int i∧0≤i∧az K H p xs∧xs[i.toNat]?=some v∧Q v H
theorem yO:Im X (CU X.K):=by
 intro pins s σ H o i ov iv Q I ro ri h
 obtain⟨p,xs,k,v,rfl,rfl,h0,hq,hv,q⟩:=h
 cases ro
 obtain⟨t,rfl⟩:=ri
 obtain⟨its,r,pl,hz⟩:=I.list hq
 obtain⟨u,eu,ru⟩:=r.get hv
 have hn:=oQ
 have hl:=(List.getElem?_eq_some_iff.mp hv).1
 exact wpAny_getItem_list pl.isList h0 (by omega) (x:=u) (by simpa using eu) ⟨v,H,I,ru,q⟩
theorem yQ {K:PySem.W.Frag}(hK:X.K=K):Dn X (wg K):=by subst hK;exact bK
theorem Hi {K:PySem.W.Frag}(hK:X.K=K):Dn X (CV K):=by subst hK;exact cR
theorem AB:∀{bs:List Bool} {us:List Value},Vals (bs.map V.bl) us→us=bs.map Value.bool
 | [],_,.nil=>rfl
 | b::bs,_,.cons r t=>by
  have r':_=Value.bool b:=r
  rw [r',AB t]
  rfl
theorem uV:bootBuiltins "all"=some (.builtin "all"):=by decide +kernel
theorem Iy:bootBuiltins "sum"=some (.builtin "sum"):=by decide +kernel
theorem Iv:bootBuiltins "abs"=some (.builtin "abs"):=by decide +kernel
theorem nP (hc:X.calm=true):fz X (.builtin "all") (λxs H Q=>∃(p:Addr) (bs:List Bool),xs=[.ref p]∧az X.K H p (bs.map V.bl)∧Q (.bl (bs.all id)) H):=by
 intro pins s σ H xs us Q I r h
 obtain⟨p,bs,rfl,hq,q⟩:=h
 obtain⟨u,rfl,rx⟩:=vals1 r
 cases rx
 obtain⟨its,rv,pl,hz⟩:=I.list hq
 have ei:its=bs.map Value.bool:=AB rv
 obtain⟨o,ho,_⟩:=id pl.isList
 have hne:p≠s.heap.objs.size:=Nat.ne_of_lt (Heap.lt_size ho)
 refine call_all_walk (wpAny_pyIter_list pl.isList ?_)
 refine⟨s.heap.objs.size,_,_,_,_,_,λi=>bs.getD i false,rfl,Walks.list (A:=X.A.in1) (I.ok.hd hc) s.heap.objs.size p hne its.toArray,⟨⟨_,Heap.get?_push_size _ rfl,rfl,rfl⟩,pl.isList.at λo e=>Heap.get?_push_of_some _ e⟩,?_,?_⟩
 ·intro i v s' Q' E' hP hQ
  have hv:its[i]?=some v:=by simpa using hP
  rw [ei,List.getElem?_map] at hv
  cases z:bs[i]? with
  | none=>rw [z] at hv;cases hv
  | some b=>
   rw [z] at hv
   cases hv
   refine wpAny_truthy_bool ?_
   have:bs.getD i false=b:=by rw [List.getD_eq_getElem?_getD,z];rfl
   rw [←this]
   exact hQ
 ·intro h' tk hk
  have f:=I.pH (H':=H) (Nat.le_refl _) (I.bb.fresh (Nat.le_refl _))
  obtain⟨f0,f1,f2,f3,f4,f5⟩:=f
  have I2:Inv X pins σ H { s with heap:=h',toks:=tk }:=I.turned (t':=tk) (it:=s.heap.objs.size) (λb o hb e=>hk b o (by simpa using hb) (Heap.get?_push_of_some _ e)) f0 f1 f3 f4 f5
  have ea:(List.range its.toArray.size).all (λi=>bs.getD i false)=bs.all id:=by
   rw [ei,List.size_toArray,List.length_map]
   have e1:bs=(List.range bs.length).map (λi=>bs.getD i false):=by
    refine List.ext_getElem (by simp) λj h1 h2=>?_
    rw [List.getElem_map,List.getElem_range,List.getD_eq_getElem?_getD,List.getElem?_eq_getElem h1]
    rfl
   conv=>rhs;rw [e1]
   rw [List.all_map]
   rfl
  exact⟨.bl (bs.all id),H,I2,by rw [ea];rfl,q⟩
theorem Fb {α:Type}(f:α→V)(xs:List α):qY (xs.map f) none (some (-1))=xs.dropLast.map f:=by
 have e:HT.kF (xs.map f).length (xs.map f).length (some (-1))=xs.length-1:=by
  rw [List.length_map]
  simp only [HT.kF]
  split<;>omega
 unfold qY
 rw [HT.zT,e,List.drop_zero,Nat.sub_zero,List.dropLast_eq_take,List.map_take]
end
section
variable {X:Cx}{a b:Expr}{ta:TA}{p p2 pos pos2:Pos}
end
open PySem PySem.Spec PyProof.Rows
namespace So
open PySem.W
section
variable {n:Nat}{key:Nat→Int}{cmp:Nat→Nat→(Bool→Shared→Prop)→Shared→Prop}{s:Shared}
def Own (n:Nat)(p:Array Nat):Prop:=p.toList.Perm (List.range n)
noncomputable def Kp (key:Nat→Int)(p:Array Nat)(i:Nat):Int:=key (p.getD i 0)
def sV (key:Nat→Int)(p:Array Nat)(k:Nat):Prop:=∀i j,i<j→j<k→Kp key p i<Kp key p j
def Dec (key:Nat→Int)(p:Array Nat)(k:Nat):Prop:=∀i j,i<j→j<k→Kp key p j<Kp key p i
theorem Own.size {p:Array Nat}(h:Own n p):p.size=n:=by
 have:=h.length_eq
 simpa using this
theorem getD_at {p:Array Nat}{i:Nat}(h:i<p.size):p.getD i 0=p[i]:=by simp [Array.getD,h]
theorem Own.lt {p:Array Nat}(h:Own n p){i:Nat}(hi:i<n):p.getD i 0<n:=by
 have hs:=h.size
 rw [getD_at (by omega)]
 have:p[i]'(by omega)∈List.range n:=h.mem_iff.mp (by simp)
 exact List.mem_range.mp this
theorem Own.ne {p:Array Nat}(h:Own n p)(inj:∀i j,i<n→j<n→key i=key j→i=j){i j:Nat}(hi:i<n)(hj:j<n)(hij:i<j):Kp key p i≠Kp key p j:=λz=>by
 have hs:=h.size
 have e:=inj _ _ (h.lt hi) (h.lt hj) z
 rw [getD_at (by omega),getD_at (by omega)] at e
 have nd:p.toList.Nodup:=h.nodup_iff.mpr List.nodup_range
 have:=List.pairwise_iff_getElem.mp nd i j (by simpa using (show i<p.size by omega)) (by simpa using (show j<p.size by omega)) hij
 simp only [Array.getElem_toList] at this
 exact this e
theorem Own.BO {p q:Array Nat}(h:Own n p)(hq:q.Perm p):Own n q:=(Array.perm_iff_toList_perm.mp hq).trans h
theorem ye {p q:Array Nat}{i j:Nat}(h:q[i]?=p[j]?):Kp key q i=Kp key p j:=by
 unfold Kp
 have e:∀(x:Array Nat) (k:Nat),x.getD k 0=x[k]?.getD 0:=λx k=>by simp
 rw [e,e,h]
theorem yp (hc:∀i j,i<n→j<n→∀C:Bool→Shared→Prop,C (decide (key i<key j)) s→cmp i j C s)(inj:∀i j,i<n→j<n→key i=key j→i=j){p:Array Nat}(hp:Own n p){Q:Nat→Shared→Prop} :
    ∀(f m:Nat),1≤m→m+f≤n→sV key p m→(∀m',m≤m'→m'≤m+f→sV key p m'→(m'=m+f∨Kp key p m'<Kp key p (m'-1))→Q m' s)→(kas_asc p f m).kasWp cmp Q s
  | 0,m,_,_,hi,q=>q m (Nat.le_refl _) (Nat.le_refl _) hi (.inl rfl)
  | f+1,m,h1,h2,hi,q=>by
    refine hc _ _ (hp.lt (by omega)) (hp.lt (by omega)) _ ?_
    by_cases z:key (p.getD m 0)<key (p.getD (m-1) 0)
    · rw [decide_eq_true z]
      exact q m (Nat.le_refl _) (by omega) hi (.inr z)
    · rw [decide_eq_false z]
      refine yp hc inj hp f (m+1) (by omega) (by omega) (λi j hij hj=>?_) λm' a b c d=>q m' (by omega) (by omega) c (d.imp (λw=>by omega) id)
      have step:Kp key p (m-1)<Kp key p m:=by
        have:=hp.ne inj (i:=m-1) (j:=m) (by omega) (by omega) (by omega)
        unfold Kp at this ⊢
        omega
      by_cases hjm:j=m
      · subst hjm
        by_cases him:i=j-1
        · rw [him];exact step
        · exact Int.lt_trans (hi i (j-1) (by omega) (by omega)) step
      · exact hi i j hij (by omega)
theorem BI (hc:∀i j,i<n→j<n→∀C:Bool→Shared→Prop,C (decide (key i<key j)) s→cmp i j C s)(inj:∀i j,i<n→j<n→key i=key j→i=j){p:Array Nat}(hp:Own n p){Q:Array Nat×Nat×Nat→Shared→Prop} :
    ∀(f m:Nat),1≤m→m+f≤n→Dec key p m→(∀m',m≤m'→m'≤m+f→Dec key p m'→Q (p,m',0) s)→(kas_desc f p m 0).kasWp cmp Q s
  | 0,m,_,_,hi,q=>q m (Nat.le_refl _) (Nat.le_refl _) hi
  | f+1,m,h1,h2,hi,q=>by
    refine hc _ _ (hp.lt (by omega)) (hp.lt (by omega)) _ ?_
    by_cases z:key (p.getD m 0)<key (p.getD (m-1) 0)
    · rw [decide_eq_true z]
      show KasT.kasWp cmp (kas_desc f p (m+1) 0) Q s
      refine BI hc inj hp f (m+1) (by omega) (by omega) (λi j hij hj=>?_) λm' a b c=>q m' (by omega) (by omega) c
      have step:Kp key p m<Kp key p (m-1):=z
      by_cases hjm:j=m
      · subst hjm
        by_cases him:i=j-1
        · rw [him];exact step
        · exact Int.lt_trans step (hi i (j-1) (by omega) (by omega))
      · exact hi i j hij (by omega)
    · rw [decide_eq_false z]
      show KasT.kasWp cmp (.ask (p.getD (m-1) 0) (p.getD m 0) λd=>if d=true then .ret (p,m,0) else kas_desc f p (m+1) (0+1)) Q s
      refine hc _ _ (hp.lt (by omega)) (hp.lt (by omega)) _ ?_
      have step:key (p.getD (m-1) 0)<key (p.getD m 0):=by
        have:=hp.ne inj (i:=m-1) (j:=m) (by omega) (by omega) (by omega)
        unfold Kp at this
        omega
      rw [decide_eq_true step]
      exact q m (Nat.le_refl _) (by omega) hi
theorem BY {p:Array Nat}(h:Own n p)(i j:Nat):Own n (kas_rev p i j):=h.BO (mirror_perm ..)
theorem HJ {p:Array Nat}(h:Own n p){m:Nat}(hm:m≤n)(hd:Dec key p m):sV key (kas_rev p 0 m) m:=λi j hij hj=>by
 have hs:=h.size
 have e:∀k,k<m→Kp key (kas_rev p 0 m) k=Kp key p (m-1-k):=λk hk=>ye (by
  unfold kas_rev
  rw [getElem?_mirror_all (by omega),if_pos (by omega)]
  congr 1
  omega)
 rw [e i (by omega),e j hj]
 exact hd _ _ (by omega) (by omega)
theorem ur (hc:∀i j,i<n→j<n→∀C:Bool→Shared→Prop,C (decide (key i<key j)) s→cmp i j C s)(inj:∀i j,i<n→j<n→key i=key j→i=j){p:Array Nat}(hp:Own n p){Q:Nat→Shared→Prop}{k:Nat}(hk:k<n)(hi:sV key p k) :
    ∀(f l r:Nat),l≤r→r≤l+f→r≤k→(∀i,i<l→Kp key p i<Kp key p k)→(∀i,r≤i→i<k→Kp key p k<Kp key p i)→(∀l',l'≤k→(∀i,i<l'→Kp key p i<Kp key p k)→(∀i,l'≤i→i<k→Kp key p k<Kp key p i)→Q l' s)→(kas_place p k f l r).kasWp cmp Q s
  | 0,l,r,h1,h2,h3,h4,h5,q=>q l (by omega) h4 λi a b=>h5 i (by omega) b
  | f+1,l,r,h1,h2,h3,h4,h5,q=>by
    unfold kas_place
    by_cases w:l≥r
    · rw [if_pos w]
      exact q l (by omega) h4 λi a b=>h5 i (by omega) b
    · rw [if_neg w]
      refine hc _ _ (hp.lt (by omega)) (hp.lt (by omega)) _ ?_
      by_cases z:key (p.getD k 0)<key (p.getD ((l+r)/2) 0)
      · rw [decide_eq_true z]
        have z:Kp key p k<Kp key p ((l+r)/2):=z
        refine ur hc inj hp hk hi f l ((l+r)/2) (by omega) (by omega) (by omega) h4 (λi a b=>?_) q
        by_cases e:i=(l+r)/2
        · rw [e];exact z
        · exact Int.lt_trans z (hi _ _ (by omega) b)
      · rw [decide_eq_false z]
        have z:Kp key p ((l+r)/2)<Kp key p k:=by
          have:=hp.ne inj (i:=(l+r)/2) (j:=k) (by omega) hk (by omega)
          unfold Kp at this ⊢
          omega
        refine ur hc inj hp hk hi f ((l+r)/2+1) r (by omega) (by omega) h3 (λi a=>?_) h5 q
        by_cases e:i=(l+r)/2
        · rw [e];exact z
        · exact Int.lt_trans (hi _ _ (by omega) (by omega)) z
theorem Dt (hc:∀i j,i<n→j<n→∀C:Bool→Shared→Prop,C (decide (key i<key j)) s→cmp i j C s)(inj:∀i j,i<n→j<n→key i=key j→i=j){Q:Array Nat→Shared→Prop}(q:∀p,Own n p→sV key p n→Q p s) :
    ∀(f:Nat) (p:Array Nat) (k:Nat),Own n p→k+f=n→sV key p k→(kas_bin f p k).kasWp cmp Q s
  | 0,p,k,hp,hk,hi=>q p hp (by rw [←hk];exact hi)
  | f+1,p,k,hp,hk,hi=>by
    unfold kas_bin
    rw [KasT.kasWp_bind]
    refine ur hc inj hp (by omega) hi k 0 k (by omega) (by omega) (Nat.le_refl _) (λi a=>by omega) (λi a b=>by omega) λl hl h1 h2=>?_
    refine Dt hc inj q f _ (k+1) (hp.BO (bubble_perm ..)) (by omega) λi j hij hj=>?_
    have hs:=hp.size
    have e:∀i,Kp key (bubble p k (k-l)) i=if i=l then Kp key p k else if l<i∧i≤k then Kp key p (i-1) else Kp key p i:=λi=>by
      have:=getElem?_bubble (xs:=p) (src:=k) (by omega) (k-l) (by omega) i
      rw [show k-(k-l)=l by omega] at this
      by_cases a:i=l
      · rw [if_pos a] at this ⊢
        exact ye this
      · rw [if_neg a] at this ⊢
        by_cases b:l<i∧i≤k
        · rw [if_pos b] at this ⊢
          exact ye this
        · rw [if_neg b] at this ⊢
          exact ye this
    rw [e i,e j]
    by_cases a:i=l
    · rw [if_pos a,if_neg (by omega),if_pos (by omega)]
      exact h2 _ (by omega) (by omega)
    · rw [if_neg a]
      by_cases b:j=l
      · rw [if_pos b,if_neg (by omega)]
        exact h1 _ (by omega)
      · rw [if_neg b]
        by_cases c:l<i
        · rw [if_pos (by omega),if_pos (by omega)]
          exact hi _ _ (by omega) (by omega)
        · rw [if_neg (by omega)]
          by_cases d:l<j
          · rw [if_pos (by omega)]
            exact hi _ _ (by omega) (by omega)
          · rw [if_neg (by omega)]
            exact hi _ _ hij (by omega)
theorem HS (hc:∀i j,i<n→j<n→∀C:Bool→Shared→Prop,C (decide (key i<key j)) s→cmp i j C s)(inj:∀i j,i<n→j<n→key i=key j→i=j)(h2:2≤n){Q:Array Nat→Shared→Prop}(q:∀p,Own n p→sV key p n→Q p s):(kas_sort n).kasWp cmp Q s:=by
 have own0:Own n (List.toArray (List.range n)):=by
  unfold Own
  exact List.Perm.refl _
 have one:∀p:Array Nat,sV key p 1:=λp i j hij hj=>by omega
 unfold kas_sort
 rw [KasT.kasWp_bind]
 have fin:∀(m:Nat) (p:Array Nat),1≤m→m≤n→Own n p→sV key p m→(if (m,p).1<n then kas_bin (n-max (m,p).1 1) (m,p).2 (max (m,p).1 1) else .ret (m,p).2).kasWp cmp Q s:=λm p h1 hm hp hi=>by
  dsimp only
  by_cases z:m<n
  ·rw [if_pos z,show max m 1=m by omega]
   exact Dt hc inj q _ p m hp (by omega) hi
  ·rw [if_neg z]
   exact q p hp (by rw [show n=m by omega];exact hi)
 unfold kas_count
 rw [KasT.kasWp_bind]
 refine yp hc inj own0 (n-1) 1 (Nat.le_refl _) (by omega) (one _) λm a b hi d=>?_
 by_cases e1:(m == n)=true
 ·rw [if_pos e1]
  exact fin m _ a (by omega) own0 hi
 ·rw [if_neg e1]
  have e1:m≠n:=by simpa using e1
  have dn:=d.resolve_left (by omega)
  by_cases e2:m > 1
  ·rw [if_pos e2]
   refine hc _ _ (own0.lt (by omega)) (own0.lt (by omega)) _ ?_
   rw [decide_eq_true (show key _<key _ from hi 0 (m-1) (by omega) (by omega))]
   exact fin m _ a (by omega) own0 hi
  ·rw [if_neg e2]
   have e3:m=1:=by omega
   subst e3
   unfold kas_descPart
   rw [KasT.kasWp_bind]
   refine BI hc inj own0 (n-(1+1)) (1+1) (by omega) (by omega) (λi j hij hj=>?_) λm' a' b' hd=>?_
   ·obtain rfl:i=0:=by omega
    obtain rfl:j=1:=by omega
    exact dn
   ·show KasT.kasWp cmp (kas_tail3 m' n _) _ s
    unfold kas_tail3
    rw [KasT.kasWp_bind]
    refine yp hc inj (BY own0 0 m') (n-m') m' (by omega) (by omega) (HJ own0 (by omega) hd) λm2 a2 b2 hi2 _=>?_
    exact fin m2 _ (by omega) (by omega) (BY own0 0 m') hi2
end
end So
open PySem PySem.Spec PyProof.Rows
def ny (sp:Nat→Sp):Nat→Sp
 | 0=>λ_ _ _ _=>False
 | n+1=>sp n
section
variable {P:Program}{w:World}{K:PySem.W.Frag}{mg:Str→Option Value}{base:Heap}{x qual:Str}{st:Stmt}{f:Addr}{fd:FuncData}{ps:List Str}{sp:Nat→Sp}
theorem zP {CX:jy}(L:Nat)(step:∀n,bc P w K mg base CX (L+n) f fd ps (ny sp n)→bc P w K mg base CX (L+n+1) f fd ps (sp n)):∀n,bc P w K mg base CX (L+n+1) f fd ps (sp n)
 | 0=>step 0 ⟨λ_ _ _ _ h=>h.elim,λ_ _ _ _ _ _ _ _ _ _ _ _ _ h=>h.elim⟩
 | n+1=>step (n+1) (zP L step n)
theorem Jw (F:cD K x qual st f fd)(b:Binds K fd ps [])(m:mg x=some (.ref f))(L:Nat)(step:∀n,Def P w K mg base x (L+n) ps (ny sp n)→bc P w K mg base cY (L+n+1) f fd ps (sp n))(n:Nat):Def P w K mg base x (L+n+1) ps (sp n):=
 cw F (zP L (λn ok=>step n (cw F ok b m)) n) b m
theorem HH (F:cD K x qual st f fd)(b:Binds K fd ps [])(m:mg x=some (.ref f))(L:Nat)(step:∀n,gz P w K mg base x (L+n) ps (ny sp n)→bc P w K mg base (eh P w) (L+n+1) f fd ps (sp n))(n:Nat):gz P w K mg base x (L+n+1) ps (sp n):=
 dF F (zP L (λn ok=>step n (dF F ok b m)) n) b m
end
theorem Gq {K:PySem.W.Frag}{a:Addr}{caps:List Nat}{tt:TT}{te:TE}{σ:St}{H:Hp}{Q:VK}(xs:List V)(Pv:Nat→List V→Hp→Prop)(hn:xs.length≤sizeLine)(h0:Pv 0 [] H)(hl:∀i ys H,Pv i ys H→az K H a xs)
    (hs:∀i (x:V) ys H,xs[i]?=some x→Pv i ys H→tt (some x::cg caps σ) H λb H4=>if b=true then te (some x::cg caps σ) H4 λv H5=>Pv (i+1) (ys++[v]) H5 else Pv (i+1) ys H4)
    (hd:∀ys H,Pv xs.length ys H→∀p,H p=none→Q (.ref p) (upd H p (.lst ys))):iU (mL K a) caps tt te σ H Q:=by
  refine⟨xs.length,λi ys H=>i≤xs.length∧Pv i ys H,hn,⟨Nat.zero_le _,h0⟩,?_⟩
  rintro i ys H2 ⟨hi,p⟩
  have hS:=hl i ys H2 p
  by_cases hlt:i<xs.length
  · have hv:xs[i]?=some xs[i]:=List.getElem?_eq_getElem hlt
    refine .inr ⟨⟨_,_,hS,hv⟩,hlt,?_⟩
    rintro y H3 ⟨rfl,hy⟩
    have hxy:y=xs[i]:=(Option.some.inj (hv.symm.trans (hy _ hS))).symm
    subst hxy
    have key:=hs i _ ys H3 hv p
    have e2:(λ(b:Bool) (H4:Hp)=>if b=true then te (some xs[i]::cg caps σ) H4 λv H5=>Pv (i+1) (ys++[v]) H5 else Pv (i+1) ys H4)=λb H4=>if b=true then te (some xs[i]::cg caps σ) H4 λv H5=>i+1≤xs.length∧Pv (i+1) (ys++[v]) H5 else i+1≤xs.length∧Pv (i+1) ys H4:=by
      funext b H4
      have z:i+1≤xs.length:=hlt
      simp only [z,true_and]
    rw [e2] at key
    exact key
  · have e:i=xs.length:=by omega
    subst e
    exact .inl ⟨⟨_,hS,Nat.le_refl _⟩,hd ys H2 p⟩
section
variable {X:Cx}
theorem wQ:bootBuiltins "sorted"=some (.builtin "sorted"):=by decide +kernel
theorem DA (hc:X.calm=true):fz X (.builtin "sum") (λxs H Q=>∃(p:Addr) (ns:List Int),xs=[.ref p]∧az X.K H p (ns.map V.int)∧Q (.int ns.sum) H):=by
 intro pins s σ H xs us Q I r h
 obtain⟨p,ns,rfl,hq,q⟩:=h
 obtain⟨u,rfl,rx⟩:=vals1 r
 cases rx
 obtain⟨its,rv,pl,hz⟩:=I.list hq
 have hi:=intsAre_of rv
 obtain⟨zs,hzs⟩:=hi.allInts.items
 have hn:zs.toList.map (·.1)=ns:=by
  rw [←nums_intItems,←hzs]
  exact hi.numsOf
 refine sum_intListG (I.ok.hd hc) (by rw [←hzs];exact pl.isList) λh' tk t' hk=>?_
 refine⟨.int _,H,I.kept hk,⟨t',rfl⟩,?_⟩
 rw [preSum_eq,List.take_of_length_le (by simp),hn]
 exact q
theorem yt (_:X.calm=true):fz X (.builtin "sorted") (λxs H Q=>∃(p:Addr) (ns:List Int),xs=[.ref p]∧az X.K H p (ns.map V.int)∧ns.length<64∧∀ms:List Int,ms.Perm ns→ms.Pairwise (·≤·)→∀l,H l=none→Q (.ref l) (upd H l (.lst (ms.map V.int)))):=by
 intro pins s σ H xs us Q I r h
 obtain⟨p,ns,rfl,hq,h64,q⟩:=h
 obtain⟨u,rfl,rx⟩:=vals1 r
 cases rx
 obtain⟨its,rv,pl,hz⟩:=I.list hq
 have hi:=intsAre_of rv
 have hl:=hi.length
 refine sorted_ints pl.isList hi (by omega) λout ms h1 h2 h3=>?_
 obtain⟨e,he⟩:=sortedAll_at s.heap its out
 refine⟨.ref (s.heap.objs.size+1),_,I.laid (t':=s.toks) (o:=.lst (ms.map V.int)) (λb u e=>sortedAll_old e) (Nat.le_succ _) ?_,rfl,q ms h2 h3 _ (I.bb.fresh (Nat.le_succ _))⟩
 have hz':ms.length≤sizeLine:=by
  rw [h2.length_eq]
  rw [List.length_map] at hz
  exact hz
 exact⟨by rw [List.length_map];exact hz',out.toList,e,rW h1,by rw [he]⟩
end
namespace So
open PySem.W
section
variable {pr:Program}{wo:World}{Ar:Around}{Er:Value→Shared→Prop}{st:Shared}
theorem outs (us:List Value):(List.range us.length).map (λi=>us.getD i Value.none)=us:=by
 refine List.ext_getElem (by simp) λj h1 h2=>?_
 rw [List.getElem_map,List.getElem_range,List.getD_eq_getElem?_getD,List.getElem?_eq_getElem h2]
 rfl
theorem Fz {a:Addr}{us:List Value}{k:Nat}{P:PySem.Fin→Shared→Prop}{Good:Array Nat→Prop}(ho:st.heap.get? a=some (seqObj "list" us.toArray k))(h64:us.length<64)
    (ask:∀hp:Heap,(∀b o,b≠a→st.heap.get? b=some o→hp.get? b=some o)→2≤us.length→wpAny (model pr wo) Ar (keyKind' us.toArray) (λκ s'=>s'={ st with heap:=hp }∧(kas_sort us.length).kasWp (kas_ask pr wo Ar κ us) (λp s''=>s''={ st with heap:=hp }∧Good p) s') (λ_ _=>False) { st with heap:=hp })
    (one:us.length<2→Good (List.range us.length).toArray)
    (fin:∀p:Array Nat,p.size=us.length→Good p→P (.done (.ret .none)) { st with heap:=sortedHeap st.heap a us (p.toList.map λi=>us.getD i Value.none).toArray }) :
    wpAny (model pr wo) Ar (Builtin.«list.sort» ⟨[.ref a],[]⟩) P Er st:=by
  rw [list_sort_plain]
  have la:=Heap.lt_size ho
  have lz:us.toArray.size=us.length:=by simp
  have sl:us.length≤sizeLine:=by rw [sizeLine_eq];omega
  refine wpAny_bind (listItems_at ho rfl (wpAny_bind (listUpdate_at ho rfl ?_ (by rw [lz];exact sl) (Nat.zero_le _))))
  obtain⟨k1,o1⟩:∃k1,(st.heap.update a (Obj.mapSeq λ_=>(#[]:Array Value))).get? a=some (seqObj "list" #[] k1):=⟨_,get?_update_seq ho _⟩
  refine wpAny_bind (seqEpoch_at o1 rfl (wpAny_bind (wpAny_newTuple (wpAny_bind (wpAny_newList (wpAny_holding ?_) (Nat.zero_le _))) (by show us.length≤_;exact sl))))
  have o2:(((st.heap.update a (Obj.mapSeq λ_=>(#[]:Array Value))).push (seqObj "tuple" us.toArray 0)).push (seqObj "list" #[] 0)).get? a=some (seqObj "list" #[] k1):=
    Heap.get?_push_of_some _ (Heap.get?_push_of_some _ o1)
  have kp:∀b o,b≠a→st.heap.get? b=some o→(((st.heap.update a (Obj.mapSeq λ_=>(#[]:Array Value))).push (seqObj "tuple" us.toArray 0)).push (seqObj "list" #[] 0)).get? b=some o:=λb o hb e=>
    Heap.get?_push_of_some _ (Heap.get?_push_of_some _ (by rw [Heap.get?_update_ne _ _ _ _ hb];exact e))
  show wpAny (model pr wo) Ar _ P Er { st with heap:=(((st.heap.update a (Obj.mapSeq λ_=>(#[]:Array Value))).push (seqObj "tuple" us.toArray 0)).push (seqObj "list" #[] 0)) }
  dsimp only
  by_cases two:us.toArray.size<2
  · rw [if_pos two,if_pos two]
    refine wpAny_bind (wpAny_pure ?_)
    rw [StateT.run_pure]
    refine wpAny_bind (wpAny_pure ?_)
    dsimp only
    have eo:(arrOf (SortSt.mk' general' (us.toArray.zip us.toArray) #[] 7 none)).map (·.2)=((List.range us.length).toArray.toList.map λi=>us.getD i Value.none).toArray:=by
      have:(us.toArray.zip us.toArray).map (·.2)=us.toArray:=by
        apply Array.toList_inj.mp
        rw [Array.toList_map,Array.toList_zip]
        exact List.map_snd_zip (Nat.le_refl _)
      show (us.toArray.zip us.toArray).map (·.2)=_
      rw [this]
      show us.toArray=((List.range us.length).map λi=>us.getD i Value.none).toArray
      rw [outs]
    rw [eo]
    refine wpAny_bind (seqEpoch_at o2 rfl (wpAny_bind (listUpdate_at o2 rfl ?_ (Nat.zero_le _) (by simp;omega))))
    simp only [bne_self_eq_false,Bool.false_eq_true,if_false]
    exact wpAny_pure (fin (List.range us.length).toArray (by rw [List.size_toArray,List.length_range]) (one (by omega)))
  · rw [if_neg two,if_neg two]
    refine wpAny_bind (wpAny_mono (ask _ kp (by omega)) (λκ s0 hk=>?_) λ_ _ x=>x.elim)
    obtain⟨rfl,hk⟩:=hk
    refine wpAny_bind (wpAny_mono (kat_run (Q:=λst' s'=>∃p:Array Nat,p.size=us.length∧arrOf st'=p.map (kas_item (us.toArray.zip us.toArray))∧failedOf st'=none∧s'=_∧Good p) rfl (by omega) h64 (λp st' s' a1 a2 a3 a4=>⟨p,a1,a2,a3,a4.1,a4.2⟩) hk) ?_ λ_ _ e=>e)
    rintro⟨⟨⟩,st'⟩ s' ⟨p,hps,har,hf,rfl,hg⟩
    dsimp only
    rw [kat_snds rfl har]
    have hz:(p.toList.map λi=>us.getD i Value.none).toArray.size=us.length:=by rw [List.size_toArray,List.length_map,Array.length_toList,hps]
    refine wpAny_bind (seqEpoch_at o2 rfl (wpAny_bind (listUpdate_at o2 rfl ?_ (Nat.zero_le _) (Nat.le_trans (Nat.le_of_eq hz) (by omega)))))
    rw [hf]
    simp only [bne_self_eq_false,Bool.false_eq_true,if_false]
    exact wpAny_pure (fin p hps hg)
theorem CQ {l:Addr}{us:List Value}{Q:Value→Shared→Prop}{Good:Array Nat→Prop}(hl:st.heap.IsList l us.toArray)(h64:us.length<64)
    (ask:∀(A2:Around) (hp:Heap),(∀b o,st.heap.get? b=some o→hp.get? b=some o)→2≤us.length→wpAny (model pr wo) A2 (keyKind' us.toArray) (λκ s'=>s'={ st with heap:=hp }∧(kas_sort us.length).kasWp (kas_ask pr wo A2 κ us) (λp s''=>s''={ st with heap:=hp }∧Good p) s') (λ_ _=>False) { st with heap:=hp })
    (one:us.length<2→Good (List.range us.length).toArray)
    (fin:∀p:Array Nat,p.size=us.length→Good p→Q (.ref (st.heap.objs.size+1)) { st with heap:=sortedAll st.heap us (p.toList.map λi=>us.getD i Value.none).toArray }) :
    wpAny (model pr wo) Ar (call (.builtin "sorted") [.ref l]) Q Er st:=by
  have sl:us.length≤sizeLine:=by rw [sizeLine_eq];omega
  refine Calls.call_function_entry kind_sorted plain_sorted entry_sorted (args_sorted1 _) ?_
  unfold Builtin.«sorted»
  refine wpAny_bind (m:=checkCount "sorted" 1 1 _) (wpAny_pure (wpAny_bind (collect_list hl (wpAny_bind (wpAny_newList ?_ sl)) sl)))
  have z1:((st.heap.push (seqObj "list" #[] 0)).update st.heap.objs.size (Obj.mapSeq (·++us.toArray))).objs.size=st.heap.objs.size+1:=by rw [Heap.size_update,size_push']
  have o1:(((st.heap.push (seqObj "list" #[] 0)).update st.heap.objs.size (Obj.mapSeq (·++us.toArray))).push (seqObj "list" us.toArray 0)).get? (st.heap.objs.size+1)=some (seqObj "list" us.toArray 0):=by
    rw [←z1];exact Heap.get?_push_size _ rfl
  have kp:∀b o,st.heap.get? b=some o→(((st.heap.push (seqObj "list" #[] 0)).update st.heap.objs.size (Obj.mapSeq (·++us.toArray))).push (seqObj "list" us.toArray 0)).get? b=some o:=λb o e=>by
    have lb:=Heap.lt_size e
    refine Heap.get?_push_of_some _ ?_
    rw [Heap.get?_update_ne _ _ _ _ (Nat.ne_of_lt lb)]
    exact Heap.get?_push_of_some _ e
  show wpAny _ _ _ _ _ { st with heap:=(((st.heap.push (seqObj "list" #[] 0)).update st.heap.objs.size (Obj.mapSeq (·++us.toArray))).push (seqObj "list" us.toArray 0)) }
  rw [z1]
  refine wpAny_bind (wpAny_holding (wpAny_call_entry slot_list_sort ⟨_,o1,rfl⟩ entry_list_sort (Fz (Good:=Good) o1 h64 (λhp kh h2=>ask _ hp (λb o e=>kh b o (λz=>?_) (kp b o e)) h2) one λp hps hg=>⟨_,rfl,wpAny_pure ⟨_,rfl,fin p hps hg⟩⟩) (args_list_sort _)))
  have:=Heap.lt_size e
  rw [z] at this
  exact Nat.lt_irrefl _ (Nat.lt_of_succ_lt this)
theorem Hk {x y:Addr}{ox oy:Obj}{k l:Nat}{a e a' e':Int}{t1 t2 t3 t4:Tok}{C:Bool→Shared→Prop}(hx:st.heap.get? x=some ox)(dx:ox.data = .seq #[.int a t1,.int e t2] k)(hy:st.heap.get? y=some oy)(dy:oy.data = .seq #[.int a' t3,.int e' t4] l)
    (he:0≤e∧e<1000) (he':0≤e'∧e'<1000) (q:C (decide (a*1000+e<a'*1000+e')) st):wpAny (model pr wo) Ar (keyLt' (tuples' true) (.ref x) (.ref y)) C Er st:=by
  refine kat_lt hx dx hy dy ?_
  show KatLex pr wo Ar true _ C [(.int a t1,.int a' t3),(.int e t2,.int e' t4)] 0 st
  refine kat_cons (wpAny_eqBool_int ?_)
  refine kat_go (λh1=>kat_yes (kat_cons (wpAny_eqBool_int (kat_go (λh2=>kat_yes (kat_nil ?_)) (λh2=>kat_no ?_))))) (λh1=>kat_no ?_)
  · have e1:a=a':=by simpa using h1
    have e2:e=e':=by simpa using h2
    have:decide (a*1000+e<a'*1000+e')=false:=decide_eq_false (by omega)
    rw [this] at q
    exact q
  · have e1:a=a':=by simpa using h1
    show wpAny (model pr wo) Ar (oneLt' false (.int e t2) (.int e' t4)) C (λ_ _=>False) st
    refine kat_one _ _ (PyProof.Rows.lt_int ?_)
    have:decide (a*1000+e<a'*1000+e')=decide (e<e'):=decide_eq_decide.mpr (by omega)
    rw [this] at q
    exact q
  · have e1:a≠a':=by simpa using h1
    show wpAny (model pr wo) Ar (oneLt' true (.int a t1) (.int a' t3)) C (λ_ _=>False) st
    refine oneLt_int ?_
    have:decide (a*1000+e<a'*1000+e')=decide (a<a'):=decide_eq_decide.mpr (by omega)
    rw [this] at q
    exact q
end
end So
section
variable {X:Cx}
def di (H:Hp)(as:List Addr)(bs:List (Int×Nat)):Prop:=as.length=bs.length∧∀(i:Nat) (a:Addr) (b:Int×Nat),as[i]?=some a→bs[i]?=some b→H a=some (.tup [.int b.1,.int (b.2:Int)])
theorem xq:∀{as:List Addr} {us:List Value},Vals (as.map V.ref) us→us=as.map Value.ref
 | [],_,.nil=>rfl
 | a::as,_,.cons r t=>by
  have r':_=Value.ref a:=r
  rw [r',xq t]
  rfl
theorem xi:∀(as:List Addr),Vals (as.map V.ref) (as.map Value.ref)
 | []=>.nil
 | a::as=>.cons rfl (xi as)
def Ef (h:Heap)(a:Addr)(b:Int×Nat):Prop:=∃(o:Obj) (k:Nat) (t1 t2:Tok),h.get? a=some o∧o.cls = .type "tuple"∧o.data = .seq #[.int b.1 t1,.int (b.2:Int) t2] k
theorem wZ {h:Heap}:∀(as:List Addr) (bs:List (Int×Nat)),as.length=bs.length→(∀(i:Nat) (a:Addr) (b:Int×Nat),as[i]?=some a→bs[i]?=some b→Ef h a b)→∃fs,PySem.W.KatTups h (as.map Value.ref) fs∧fs.length=as.length∧∀v,v∈fs→∃(i:Int) (t:Tok),v = .int i t
 | [],_,_,_=>⟨[],PySem.W.KatTups.nil,rfl,λ_ h=>nomatch h⟩
 | a::as,[],hl,_=>by simp at hl
 | a::as,b::bs,hl,h0=>by
  obtain⟨fs,h1,h2,h3⟩:=wZ as bs (by simpa using hl) λi x y e1 e2=>h0 (i+1) x y (by simpa using e1) (by simpa using e2)
  obtain⟨o,k,t1,t2,g1,g2,g3⟩:=h0 0 a b rfl rfl
  refine⟨.int b.1 t1::fs,PySem.W.KatTups.cons g1 g2 g3 rfl h1,by simp [h2],λv hv=>?_⟩
  rcases List.mem_cons.mp hv with z|z
  ·exact⟨_,_,z⟩
  ·exact h3 v z
theorem getD_at' {α:Type}{xs:List α}{i:Nat}(d:α)(h:i<xs.length):xs[i]?=some (xs.getD i d):=by
 rw [List.getD_eq_getElem?_getD,List.getElem?_eq_getElem h]
 rfl
theorem yu (_:X.calm=true):fz X (.builtin "sorted") (λxs H Q=>∃(p:Addr) (as:List Addr) (bs:List (Int×Nat)),xs=[.ref p]∧az X.K H p (as.map V.ref)∧di H as bs∧bs.length<64∧(∀b,b∈bs→b.2<1000)∧bs.Pairwise (·≠·) ∧
    ∀(as':List Addr) (bs':List (Int×Nat)),bs'.Perm bs→bs'.Pairwise Dr.sW→di H as' bs'→∀l,H l=none→Q (.ref l) (upd H l (.lst (as'.map V.ref)))):=by
  intro pins s σ H xs us Q I r h
  obtain⟨p,as,bs,rfl,hq,hP,h64,hd,hne,q⟩:=h
  obtain⟨u,rfl,rx⟩:=vals1 r
  cases rx
  obtain⟨its,rv,pl,hz⟩:=I.list hq
  obtain rfl:=xq rv
  obtain⟨hl,hP⟩:=hP
  have ob:∀(h':Heap),(∀b o,s.heap.get? b=some o→h'.get? b=some o)→∀(i:Nat) (a:Addr) (b:Int×Nat),as[i]?=some a→bs[i]?=some b→Ef h' a b:=λh' hk i a b e1 e2=>by
    obtain⟨_,vs,r2,o,g1,g2,k,g3⟩:=I.bb a _ (hP i a b e1 e2)
    cases r2 with
    | cons r2 rr=>
      cases rr with
      | cons r3 rr=>
        cases rr
        obtain⟨t1,rfl⟩:=r2
        obtain⟨t2,rfl⟩:=r3
        exact⟨o,k,t1,t2,hk _ _ g1,g2,g3⟩
  have el:(as.map Value.ref).length=bs.length:=by simp [hl]
  have er:∀i,i<bs.length→(as.map Value.ref).getD i Value.none = .ref (as.getD i 0):=λi hi=>by
    rw [List.getD_eq_getElem?_getD,List.getElem?_map,getD_at' 0 (show i<as.length by ((try clear h64 hz);omega))]
    rfl
  refine So.CQ (Good:=λp=>So.Own bs.length p∧So.sV (λi=>(bs.getD i (0,0)).1*1000+((bs.getD i (0,0)).2:Int)) p bs.length) pl.isList (by (try clear hz);omega) (λA2 hp kh h2=>?_) (λh1=>⟨?_,λi j hij hj=>by ((try clear hz);omega)⟩) λp hps hg=>?_
  · obtain⟨fs,f1,f2,f3⟩:=wZ (h:=hp) as bs hl (ob hp kh)
    refine PySem.W.kat_kind (T:=.type "int") f1 (by (try clear hz);omega) (λv hv=>?_) rfl ⟨rfl,?_⟩
    · obtain⟨i,t,rfl⟩:=f3 v hv
      exact .now
    rw [el]
    refine So.HS (key:=λi=>(bs.getD i (0,0)).1*1000+((bs.getD i (0,0)).2:Int)) (λi j hi hj C hC=>?_) (λi j hi hj e=>?_) (by (try clear hz);omega) λp a b=>⟨rfl,a,b⟩
    · have b1:=getD_at' ((0:Int),(0:Nat)) hi
      have b2:=getD_at' ((0:Int),(0:Nat)) hj
      obtain⟨o1,k1,t1,t2,g1,_,g3⟩:=ob hp kh i _ _ (getD_at' 0 (show i<as.length by ((try clear b1 b2 h2 h64 hj hz);omega))) b1
      obtain⟨o2,k2,t3,t4,g1',_,g3'⟩:=ob hp kh j _ _ (getD_at' 0 (show j<as.length by ((try clear b1 b2 g1 g3 h2 h64 hi hz);omega))) b2
      have d1:=hd _ (List.mem_of_getElem? b1)
      have d2:=hd _ (List.mem_of_getElem? b2)
      unfold PySem.W.kas_ask
      rw [er i hi,er j hj]
      exact So.Hk g1 g3 g1' g3' (by (try clear b1 b2 d2 el f2 g1 g1' g3 g3' h2 h64 hi hj hl hz);omega) (by (try clear b1 b2 d1 el f2 g1 g1' g3 g3' h2 h64 hi hj hl hz);omega) hC
    · have b1:=getD_at' ((0:Int),(0:Nat)) hi
      have b2:=getD_at' ((0:Int),(0:Nat)) hj
      have d1:=hd _ (List.mem_of_getElem? b1)
      have d2:=hd _ (List.mem_of_getElem? b2)
      have e1:(bs.getD i (0,0)).1=(bs.getD j (0,0)).1:=by have e':(bs.getD i (0,0)).1*1000+((bs.getD i (0,0)).2:Int)=(bs.getD j (0,0)).1*1000+((bs.getD j (0,0)).2:Int):=e;((try clear b1 b2 e' el f2 h2 h64 hi hj hl hz);omega)
      have e2:(bs.getD i (0,0)).2=(bs.getD j (0,0)).2:=by have e':(bs.getD i (0,0)).1*1000+((bs.getD i (0,0)).2:Int)=(bs.getD j (0,0)).1*1000+((bs.getD j (0,0)).2:Int):=e;((try clear b1 b2 d1 d2 e' el f2 h2 h64 hi hj hl hz);omega)
      have e3:bs.getD i (0,0)=bs.getD j (0,0):=Prod.ext e1 e2
      rw [List.getElem?_eq_getElem hi] at b1
      rw [List.getElem?_eq_getElem hj] at b2
      have e4:bs[i]=bs[j]:=(Option.some.inj b1).trans (e3.trans (Option.some.inj b2).symm)
      rcases Nat.lt_trichotomy i j with z|z|z
      · exact absurd e4 (List.pairwise_iff_getElem.mp hne i j hi hj z)
      · exact z
      · exact absurd e4.symm (List.pairwise_iff_getElem.mp hne j i hj hi z)
  · rw [el]
    exact List.Perm.refl _
  · obtain⟨hO,hI⟩:=hg
    obtain⟨e,he⟩:=sortedAll_at s.heap (as.map Value.ref) (p.toList.map λi=>(as.map Value.ref).getD i Value.none).toArray
    have pm:∀i,i∈p.toList→i<bs.length:=λi hi=>List.mem_range.mp (hO.mem_iff.mp hi)
    have eo:(p.toList.map λi=>(as.map Value.ref).getD i Value.none)=(p.toList.map λi=>as.getD i 0).map Value.ref:=by
      rw [List.map_map]
      exact List.map_congr_left λi hi=>er i (pm i hi)
    have ep:p.toList.length=bs.length:=by rw [Array.length_toList,hps,el]
    refine⟨.ref (s.heap.objs.size+1),_,I.laid (t':=s.toks) (o:=.lst ((p.toList.map λi=>as.getD i 0).map V.ref)) (λb u e=>sortedAll_old e) (Nat.le_succ _) ?_,rfl,q _ (p.toList.map λi=>bs.getD i (0,0)) ?_ ?_ ⟨by simp,λi a b e1 e2=>?_⟩ _ (I.bb.fresh (Nat.le_succ _))⟩
    · refine⟨by rw [List.length_map,List.length_map,ep,sizeLine_eq];((try clear eo he hz);omega),_,e,xi _,?_⟩
      rw [he,eo]
    · have:=hO.map λi=>bs.getD i ((0:Int),(0:Nat))
      have e2:(List.range bs.length).map (λi=>bs.getD i ((0:Int),(0:Nat)))=bs:=by
        refine List.ext_getElem (by simp) λj h1 h2=>?_
        rw [List.getElem_map,List.getElem_range,List.getD_eq_getElem?_getD,List.getElem?_eq_getElem h2]
        rfl
      rwa [e2] at this
    · rw [List.pairwise_map,List.pairwise_iff_getElem]
      intro i j hi hj hij
      have:=hI i j hij (by (try clear eo h64 he hi hij hz);omega)
      unfold So.Kp at this
      have hs:p.size=bs.length:=by rw [hps,el]
      rw [So.getD_at (by (try clear el eo ep h64 he hij hj hl hps hs hz this);omega),So.getD_at (by (try clear el eo ep h64 he hij hl hps hs hz this);omega)] at this
      simp only [Array.getElem_toList]
      have d1:=hd _ (List.mem_of_getElem? (getD_at' ((0:Int),(0:Nat)) (pm p[i] (by simp))))
      have d2:=hd _ (List.mem_of_getElem? (getD_at' ((0:Int),(0:Nat)) (pm p[j] (by simp))))
      unfold Dr.sW
      have this:(bs.getD p[i] (0,0)).1*1000+((bs.getD p[i] (0,0)).2:Int)<(bs.getD p[j] (0,0)).1*1000+((bs.getD p[j] (0,0)).2:Int):=this
      ((try clear el eo ep h64 he hij hl hps hs hz);omega)
    · rw [List.getElem?_map] at e1 e2
      cases z:p.toList[i]? with
      | none=>rw [z] at e1;cases e1
      | some k=>
        rw [z] at e1 e2
        have hk:=pm k (List.mem_of_getElem? z)
        have a1:as.getD k 0=a:=Option.some.inj e1
        have a2:bs.getD k (0,0)=b:=Option.some.inj e2
        exact hP k a b (by rw [←a1];exact getD_at' 0 (by (try clear a1 a2 e1 e2 eo h64 he hz z);omega)) (by rw [←a2];exact getD_at' _ hk)
end
open PySem PySem.Spec PyProof.Rows
def z9 (caps:List Nat)(wi:TI)(g:TG)(tt:TT)(te:TE):TE:=λσ H Q=>wi σ H λJ H1=>∃(n:Nat) (W:Nat→List V→Hp→Prop),n≤sizeLine∧W 0 [] H1∧∀i ys H2,W i ys H2 →
 (J.stop i H2∧∀p,H2 p=none→Q (.ref p) (upd H2 p (.lst ys))) ∨
 (J.go i H2∧i<n∧∀x H3,J.pd i H2 x H3→∀o1 o2:Option V,g x (o1::o2::cg caps σ) H3 λσ4 H4=>(∃v1 v2:V,σ4=some v1::some v2::cg caps σ)∧tt σ4 H4 λb H5=>if b=true then te σ4 H5 λv H6=>W (i+1) (ys++[v]) H6 else W (i+1) ys H5)
section
variable {X:Cx}{scope:Scope}{cl:List (Str×Addr)}{caps:List Nat}{xs:List Str}{C:Addr}{s:Shared}{H:Hp}{fp:List Addr}{pins:List (Addr×Obj)}{σ:St}
theorem AU (I:Inv X pins σ H s)(hcl:kK X.env.cells cl)(hk:scope.kind = .function)(hfp:∀b∈fp,gF X pins H b)(hlt:∀b∈fp,b<s.heap.objs.size)
    (hhas:((relabel scope X.env).names.all λy=>!(y.2 == .cell || y.2 == .free) || (cl.lookup y.1).isSome)=true) (hC:s.heap.objs.size≤C)
    (hcap:jG X (relabel scope X.env) cl caps xs) (hlen:caps.length=xs.length) {x y:Str} {h₁:Heap} {t:Nat} {m:Str→Option Value} (hn:h₁.Ns C m) (kp:∀b o,s.heap.get? b=some o→h₁.get? b=some o) :
    Inv (dc X (x::y::xs) scope cl C s H fp) [] (none::none::cg caps σ) H { s with heap:=h₁,toks:=t } where
  ok:=BD I hcl hk hfp hlt hhas hC
  os:=rfl
  bare:=I.bare
  base:=Un.kept kp
  loc:=by
    refine⟨m,hn,λi z v h1 h2 _=>?_⟩
    cases i with
    | zero=>simp at h2
    | succ i=>
    cases i with
    | zero=>simp at h2
    | succ i=>
      obtain⟨j,e1,e2,e3,e4,c,e5⟩:=vP (X:=X) (scope:=scope) hcap (i:=i) (by simpa [dc] using h1) (by simpa using h2)
      obtain⟨m₀,_,hl⟩:=I.loc
      obtain⟨u,r,lk⟩:=hl j z v e1 e2 (.inr (.inl e3))
      refine⟨u,r,.inr ⟨.inl e4,c,e5,?_⟩⟩
      rcases lk with⟨z1,_⟩|⟨_,c',q1,q2⟩
      · have z':X.env.scope.names.lookup z=some .local:=z1
        rw [e3] at z'
        cases z'
      · rw [hcl.get e5] at q1
        cases q1
        obtain⟨o,ho,hd⟩:=q2
        exact⟨o,kp _ _ ho,hd⟩
  cell:=λz c e=>by
    obtain⟨v,o,ho,hd⟩:=I.cell z c (hcl.get e)
    exact⟨v,o,kp _ _ ho,hd⟩
  free:=I.bb.fresh hC
  gb:=λz c e=>I.gb z c (hcl.get e)
  pin:=λp hp=>by
    have hp':p∈([]:List (Addr×Obj)):=hp
    cases hp'
  bb:=I.bb.kept kp
  len:=by simp [dc,cg,hlen]
end
section
variable {X:Cx}
theorem tN {elt iter tgt:Expr}{x y:Str}{pos:Pos}{g:TG}{ifs:List Expr}{scope:Scope}{cl:List (Str×Addr)}{caps:List Nat}{xs:List Str}{tt:TT}{te:TE}
    (hc:X.calm=true) (hcl:kK X.env.cells cl) (hcap:jG X (relabel scope X.env) cl caps xs) (hlen:caps.length=xs.length)
    (hkind:scope.kind = .function) (hcell:∀y∈scope.names,y.2≠.cell)
    (hhas:((relabel scope X.env).names.all λy=>!(y.2 == .cell || y.2 == .free) || (cl.lookup y.1).isSome)=true)
    (hg:∀C s H fp,PG (dc X (x::y::xs) scope cl C s H fp) tgt g)
    (ht:∀C s H fp,wG (dc X (x::y::xs) scope cl C s H fp) ifs tt) (he:∀C s H fp,PE (dc X (x::y::xs) scope cl C s H fp) elt te)
    {pins:List (Addr×Obj)} {σ:St} {H1:Hp} {s2:Shared} {it:Addr} {fp:List Addr} {tn:Nat→Heap→Prop} {J:It} {Q:VK}
    (I2:Inv X pins σ H1 s2) (T:Turn X.prog X.w X.K tgt J fp it tn) (st0:tn 0 s2.heap) (hfp:∀b∈fp,gF X pins H1 b)
    (hq:∃(n:Nat) (W:Nat→List V→Hp→Prop),n≤sizeLine∧W 0 [] H1∧∀i ys H2,W i ys H2 →
      (J.stop i H2∧∀p,H2 p=none→Q (.ref p) (upd H2 p (.lst ys))) ∨
      (J.go i H2∧i<n∧∀x H3,J.pd i H2 x H3→∀o1 o2:Option V,g x (o1::o2::cg caps σ) H3 λσ4 H4=>(∃v1 v2:V,σ4=some v1::some v2::cg caps σ)∧tt σ4 H4 λb H5=>if b=true then te σ4 H5 λv H6=>W (i+1) (ys++[v]) H6 else W (i+1) ys H5))
    {RR:Value→Addr→Result→Shared→Prop}
    (hRR:∀s1 D C m H',Inv X pins σ H' s1→s1.heap.Ns C m→Loose X pins H' C→Q (.ref D) H'→RR (.ref D) C (.ok .next) s1) :
    wpAny (model X.prog X.w) X.A (newList []) (λacc s₃=>wpAny (model X.prog X.w) X.A (newFunctionEnv scope X.env.globals cl [] X.env.qual none .none (some X.env)) (λcenv s₄=>
      codeAny (model X.prog X.w) X.A (.compStart (.ListComp elt [⟨tgt,iter,ifs,0⟩] scope pos) 0 (.ref it) acc { cenv with scope:=relabel scope X.env }) (RR acc cenv.locals) s₄) X.xe s₃) X.xe s2:=by
  obtain⟨n,W,hn,w0,hW⟩:=hq
  have hlt:∀b∈fp,b<s2.heap.objs.size:=λb hb=>by
    obtain⟨o,ho,_⟩:=T.obj 0 s2.heap st0 b hb
    exact Heap.lt_size ho
  refine wpAny_newObj_type (wpAny_newFunctionEnv hcell (by intro y hy;simp at hy) (λh₁ hns₁ hsb₁=>?_) hkind)
  dsimp only at hns₁ hsb₁ ⊢
  generalize hH2:s2.heap.push { cls:=.type "list",dict:=none,data:=.seq ([]:List Value).toArray }=G at hns₁ hsb₁ ⊢
  have hC:G.objs.size=s2.heap.objs.size+1:=by rw [←hH2,Heap.size_push]
  have hDC:s2.heap.objs.size≠G.objs.size:=by ((try clear hH2 hc hhas hkind hlen hn);omega)
  have old:∀b o,s2.heap.get? b=some o→h₁.get? b=some o:=λb o e=>hsb₁.extBut b o (adr (by have h1:@LT.lt Nat _ b s2.heap.objs.size:=Heap.lt_size e;((try clear e hDC hH2 hc hhas hkind hlen hn);omega))) (Heap.get?_push_of_some _ (hH2▸Heap.get?_push_of_some _ e))
  have hacc:h₁.get? s2.heap.objs.size=some { cls:=.type "list",dict:=none,data:=.seq ([]:List Value).toArray }:=
    hsb₁.extBut _ _ hDC (Heap.get?_push_of_some _ (hH2▸Heap.get?_push_size _ rfl))
  have I3:Inv (dc X (x::y::xs) scope cl G.objs.size s2 H1 fp) [] (none::none::cg caps σ) H1 { s2 with heap:=h₁,toks:=s2.toks+([]:List (Str×Value)).length }:=
    AU I2 hcl hkind hfp hlt hhas (by (try clear hDC hH2 hacc hc hhas hkind hlen hn);omega) hcap hlen hns₁ old
  have st1:tn 0 h₁:=T.keep 0 _ _ st0 λb hb o e=>old b o e
  have fpX:∀{pins':List (Addr×Obj)} {H':Hp} (b:Addr),b∈fp→H' b=none→(∀p∈pins',p.1≠b)→gF (dc X (x::y::xs) scope cl G.objs.size s2 H1 fp) pins' H' b:=λb hb hh hp=>
    ⟨hh,λz=>by have h1:@LT.lt Nat _ b s2.heap.objs.size:=hlt b hb;have z':@Eq Nat b G.objs.size:=z;((try clear hDC hH2 hacc hc hh hhas hkind hlen hn z);omega),λz=>by
      rcases List.mem_cons.mp (I2.nE b z) with q|q
      · exact (hfp b hb).2.1 q
      · exact (hfp b hb).2.2.1 q,.inl hb,λy c e=>(hfp b hb).2.2.2.2.1 y c (hcl.get e),λp hp'=>hp p hp'⟩
  let XC:=dc X (x::y::xs) scope cl G.objs.size s2 H1 fp
  have loop:∀s3:Shared,s3={ s2 with heap:=h₁,toks:=s2.toks+([]:List (Str×Value)).length } →
      codeAny (model X.prog X.w) X.A (.compLoop (.ListComp elt [⟨tgt,iter,ifs,0⟩] scope pos) 0 (.ref it) (.ref s2.heap.objs.size) (compEnvC scope cl G.objs.size X.env))
        (RR (.ref s2.heap.objs.size) G.objs.size) s3:=by
    rintro s3 rfl
    refine wU (λm s'=>∃(i:Nat) (ys:List V) (Hn:Hp) (its:List Value) (k:Nat) (v0 v1:Option V),m=n+1-i∧i≤n∧ys.length≤i∧W i ys Hn∧Vals ys its∧tn i s'.heap∧(∀b∈fp,Hn b=none) ∧
      Inv XC [(s2.heap.objs.size,{ cls:=.type "list",data:=.seq its.toArray k })] (v0::v1::cg caps σ) Hn s') ?_ (n+1) ?_
    · rintro m s' ⟨i,ys,Hn,its,k,v0,v1,rfl,hin,hyl,w,rv,st,hfn,J'⟩
      have pD:=J'.pin _ (List.mem_append_right _ (List.mem_singleton.mpr rfl))
      have neD:∀b∈fp,∀p∈[((s2.heap.objs.size,({ cls:=.type "list",data:=.seq its.toArray k }:Obj)))],p.1≠b:=λb hb p hp z=>by
        have h1:@LT.lt Nat instLTNat b s2.heap.objs.size:=hlt b hb
        rw [List.mem_singleton.mp hp] at z
        have z':@Eq Nat s2.heap.objs.size b:=z
        ((try clear hC hDC hH2 hacc hc hhas hin hkind hlen hn hyl pD z');omega)
      rcases hW i ys Hn w with⟨hstop,fin⟩|⟨hgo,hi',hgo'⟩
      · 
        refine wpAny_mono (T.done XC rfl rfl rfl hc i _ s' _ Hn (λ_ _=>False) J' (λb hb=>fpX b hb (hfn b hb) (neD b hb)) st hstop) (λr s1 hr=>?_) λ_ _ z=>z
        obtain⟨rfl,J1⟩:=hr
        obtain⟨mC,hnC,_⟩:=J1.loc
        have pD1:=J1.pin _ (List.mem_append_right _ (List.mem_singleton.mpr rfl))
        have hD':s1.heap.get? s2.heap.objs.size=some { cls:=.type "list",data:=.seq its.toArray k }:=pD1.1
        have hHD:Hn s2.heap.objs.size=none:=pD1.2.1
        have hHC:Hn G.objs.size=none:=J1.free
        have un:Un (dR X.stack) fp H1 (upd Hn s2.heap.objs.size (.lst ys)) s2.heap s1.heap:=by
          have u:=J1.base
          have lt2:∀b o,s2.heap.get? b=some o→b≠G.objs.size∧b≠s2.heap.objs.size:=λb o e=>by
            have h1:=ltN e
            exact⟨adr (by (try clear e hD' hDC hH2 hHC hHD hacc hc hhas hin hkind hlen hn hyl pD pD1);omega),adr (by (try clear e hC hD' hDC hH2 hHC hHD hacc hc hhas hin hkind hlen hn hyl pD pD1);omega)⟩
          refine⟨u.keep,u.slot,λb o e n1 n2=>?_,u.there,λb zs e=>?_,λb o u' e=>?_,λb ps e=>?_⟩
          · rw [aI (lt2 b o e).2]
            exact u.free b o e n1 n2
          · have q:=u.jF b zs e
            rw [aI (λz=>by rw [z,hHD] at q;cases q)]
            exact q
          · have q:=u.i3 b o u' e
            rw [aI (λz=>by rw [z,hHD] at q;cases q)]
            exact q
          · obtain⟨more,q⟩:=u.jE b ps e
            refine⟨more,?_⟩
            rw [aI (λz=>by rw [z,hHD] at q;cases q)]
            exact q
        have bb:e7 X.prog X.w (upd Hn s2.heap.objs.size (.lst ys)) s1.heap:=λa o e=>by
          by_cases ha:a=s2.heap.objs.size
          · subst ha
            rw [aS] at e
            cases e
            exact⟨by (try clear hC hD' hDC hH2 hHC hHD hacc hc hhas hkind hlen pD pD1);omega,its,k,rv,hD'⟩
          · rw [aI ha] at e
            have q:cT X.prog X.w Hn s1.heap a o:=J1.bb a o e
            refine q.gB (λb u' hb e'=>e') (λb e'=>?_) λb zs e'=>?_
            · rw [aI (λz=>by rw [z,hHD] at e';cases e')];exact e'
            · rw [aI (λz=>by rw [z,hHD] at e';cases e')];exact e'
        have I4:Inv X pins σ (upd Hn s2.heap.objs.size (.lst ys)) s1:=
          I2.ya (ch:=fp) J1.os un bb J1.bare λb hb=>⟨(hfp b hb).2.2.2.1,(hfp b hb).2.1,(hfp b hb).2.2.2.2.1,(hfp b hb).2.2.2.2.2⟩
        refine hRR s1 _ _ mC _ I4 hnC ⟨by rw [aI (Ne.symm hDC)];exact hHC,λz=>?_,by have:=I2.sz;((try clear hD' hDC hH2 hHC hHD hacc hc hhas hin hkind hlen hn hyl pD pD1);omega),λy c e z=>?_,λp hp z=>?_⟩ (fin _ hHD)
        · have h1:@LT.lt Nat instLTNat X.env.locals s2.heap.objs.size:=I2.lt
          have z':@Eq Nat G.objs.size X.env.locals:=z
          ((try clear hD' hDC hH2 hHC hHD hacc hc hhas hin hkind hlen hn hyl pD pD1 z);omega)
        · obtain⟨v',o',ho',_⟩:=I2.cell y c e
          have h1:=ltN ho'
          have z':@Eq Nat c G.objs.size:=z
          ((try clear e hD' hDC hH2 hHC hHD hacc hc hhas hin hkind hlen hn ho' hyl pD pD1 z);omega)
        · have h1:=ltN (I2.pin p hp).1
          have z':@Eq Nat p.1 G.objs.size:=z
          ((try clear hD' hDC hH2 hHC hHD hacc hc hhas hin hkind hlen hn hyl pD pD1 z);omega)
      · 
        refine wpAny_mono (T.item XC rfl rfl rfl hc i _ s' _ Hn (λ_ _=>False) J' (λb hb=>fpX b hb (hfn b hb) (neD b hb)) st hgo) (λr s1 hr=>?_) λ_ _ z=>z
        obtain⟨u,rfl,hr⟩:=hr
        refine wpAny_mono hr (λ_ s2' h2=>?_) λ_ _ z=>z
        obtain⟨v,H3,J1,ru,hy,st1',hf3⟩:=h2
        have ob4:∀b∈fp,∃o,s2'.heap.get? b=some o∧∀v,o.data≠.cell v:=λb hb=>T.obj _ _ st1' b hb
        have J3:=J1.pinned (λb hb=>fpX b hb (hf3 b hb) (neD b hb)) ob4
        have tnAt:∀{σ':St} {H':Hp} {s'':Shared},Inv XC ([(s2.heap.objs.size,({ cls:=.type "list",data:=.seq its.toArray k }:Obj))]++oX fp s2'.heap) σ' H' s''→tn (i+1) s''.heap∧∀b∈fp,H' b=none:=λJ4=>
          ⟨T.keep _ _ _ st1' λb hb o e=>(J4.pin (b,o) (List.mem_append_right _ (List.mem_append_right _ (jd hb e)))).1,λb hb=>by
            obtain⟨o,e,_⟩:=ob4 b hb
            exact (J4.pin (b,o) (List.mem_append_right _ (List.mem_append_right _ (jd hb e)))).2.1⟩
        refine wpAny_mono (hg _ _ _ _ _ s2' _ H3 v u _ J3 ru (hgo' v H3 hy v0 v1)) (λ_ s4 h4=>?_) λ_ _ z=>z
        obtain⟨σ4,H3',J3',⟨w1,w2,rfl⟩,q3⟩:=h4
        refine bU (ht _ _ _ _ _ s4 _ H3' _ J3' q3) λok s5 ⟨H4,J4,q4⟩=>?_
        cases ok with
        | false=>
          rw [if_neg (by simp)]
          have q4':W (i+1) ys H4:=q4
          obtain⟨a1,a2⟩:=tnAt J4
          exact⟨n+1-(i+1),by (try clear hC hDC hH2 hacc hc hhas hin hkind hlen hn hyl pD);omega,i+1,ys,H4,its,k,some w1,some w2,rfl,by (try clear hC hDC hH2 hacc hc hhas hin hkind hlen hn hyl pD);omega,by (try clear hC hDC hH2 hacc hc hhas hi' hin hkind hlen hn pD);omega,q4',rv,a1,a2,J4.nG⟩
        | true=>
          rw [if_pos rfl]
          have q4':te (some w1::some w2::cg caps σ) H4 λv H5=>W (i+1) (ys++[v]) H5:=q4
          refine bU (he _ _ _ _ _ s5 _ H4 _ J4 q4') λuv s6 ⟨y,H5,J5,ry,q5⟩=>?_
          obtain⟨a1,a2⟩:=tnAt J5
          have pD6:=J5.pin _ (List.mem_append_right _ (List.mem_append_left _ (List.mem_singleton.mpr rfl)))
          have hl6:=rv.length
          refine call_meets F.slot_list_append ⟨_,pD6.1,rfl⟩ F.entry_list_append (F.args_list_append_2 _ _) (PySem.list_append s2.heap.objs.size its.toArray k uv (by rw [List.size_toArray];((try clear hC hDC hH2 hacc hc hhas hin hkind hlen pD pD6);omega))) ⟨pD6.1,?_⟩
          have J6:Inv XC [] (some w1::some w2::cg caps σ) H5 s6:=J5.j4 λp hp=>by cases hp
          have ne6:s2.heap.objs.size∉fp:=λz=>by have h1:@LT.lt Nat instLTNat s2.heap.objs.size s2.heap.objs.size:=hlt _ z;((try clear hC hDC hH2 hacc hc hhas hi' hin hkind hl6 hlen hn hyl pD pD6);omega)
          have J7:Inv XC [] (some w1::some w2::cg caps σ) H5 { s6 with heap:=s6.heap.update s2.heap.objs.size (Obj.mapSeq λxs=>xs.push uv),toks:=s6.toks }:=
            J6.turned (it:=s2.heap.objs.size) (λb o hb e=>by rw [Heap.get?_update_other _ _ (Ne.symm hb)];exact e) pD6.2.1 (λz=>hDC z) (.inr (Nat.le_refl _)) (λy c e z=>by
              have e1:=I2.cell y c (hcl.get e)
              obtain⟨v',o',ho',_⟩:=e1
              have h1:=ltN ho'
              have z':@Eq Nat c s2.heap.objs.size:=z
              ((try clear e hC hDC hH2 hacc hc hhas hi' hin hkind hl6 hlen hn ho' hyl ne6 pD pD6 z);omega)) (λp hp=>by cases hp)
          refine⟨n+1-(i+1),by (try clear hC hDC hH2 hacc hc hhas hin hkind hl6 hlen hn hyl ne6 pD pD6);omega,i+1,ys++[y],H5,its++[uv],k+1,some w1,some w2,rfl,by (try clear hC hDC hH2 hacc hc hhas hin hkind hl6 hlen hn hyl ne6 pD pD6);omega,by rw [List.length_append,List.length_singleton];((try clear hC hDC hH2 hacc hc hhas hi' hin hkind hlen hn ne6 pD pD6);omega),q5,rv.append (.cons ry .nil),?_,a2,?_⟩
          · refine T.keep _ _ _ a1 λb hb o e=>?_
            show (s6.heap.update s2.heap.objs.size _).get? b=some o
            rw [Heap.get?_update_other _ _ (λz=>ne6 (by rw [z];exact hb))]
            exact e
          · refine J7.j4 λp hp=>?_
            rw [List.mem_singleton.mp hp]
            refine⟨?_,pD6.2.1,λz=>hDC z,pD6.2.2.2.1,λv' z=>?_⟩
            · show (s6.heap.update s2.heap.objs.size _).get? s2.heap.objs.size=_
              rw [Heap.get?_update_self _ pD6.1 rfl]
              simp only [Obj.mapSeq,List.push_toArray]
              rw [if_neg (by simp)]
            · have z':Data.seq _ _=Data.cell v':=z
              cases z'
    · exact⟨0,[],H1,[],0,none,none,by (try clear hC hDC hH2 hacc hc hhas hkind hlen hn);omega,by (try clear hC hDC hH2 hacc hc hhas hkind hlen hn);omega,by simp,w0,.nil,st1,λb hb=>(hfp b hb).1,I3.j4 λp hp=>by
        rw [List.mem_singleton.mp hp]
        refine⟨hacc,I2.bb.fresh (Nat.le_refl _),λz=>hDC z,λz=>?_,λv' z=>?_⟩
        · have:=I2.pb _ z
          rcases List.mem_cons.mp (I2.nE _ z) with q|q
          · have h1:@LT.lt Nat instLTNat X.env.locals s2.heap.objs.size:=I2.lt
            have z':@Eq Nat s2.heap.objs.size X.env.locals:=q
            ((try clear hC hDC hH2 hacc hc hhas hkind hlen hn q this);omega)
          · exact I2.Fy (Nat.le_refl _) q
        · have z':Data.seq _ _=Data.cell v':=z
          cases z'⟩
  exact codeAny_compStart_list (loop _ rfl) (T.self X.A 0 _ _ _ st1 (loop _ rfl))
theorem pU {elt iter:Expr}{x y:Str}{px py pt pos:Pos}{k1:Nat}{ifs:List Expr}{scope:Scope}{cl:List (Str×Addr)}(caps:List Nat)(xs:List Str){wi:TI}{tt:TT}{te:TE}
    (hc:X.calm=true) (hclos:closureFor scope X.env=pure cl) (hcl:kK X.env.cells cl) (hcap:jG X (relabel scope X.env) cl caps xs) (hlen:caps.length=xs.length)
    (hkind:scope.kind = .function) (hcell:∀y∈scope.names,y.2≠.cell) (hnames:∀y∈scope.names,y.2 = .local→scope.names.lookup y.1=some .local)
    (hhas:((relabel scope X.env).names.all λy=>!(y.2 == .cell || y.2 == .free) || (cl.lookup y.1).isSome)=true)
    (hx:(relabel scope X.env).names.lookup x=some .local) (hy:(relabel scope X.env).names.lookup y=some .local) (hN:(x::y::xs).Nodup) (hi:PI X (.Tuple [.Name x px,.Name y py] k1 pt) iter wi) (ht:∀C s H fp,wG (dc X (x::y::xs) scope cl C s H fp) ifs tt) (he:∀C s H fp,PE (dc X (x::y::xs) scope cl C s H fp) elt te)
    (hs:∀v,foldedSetIterable iter X.env v=pure v:=by intro _;rfl):PE X (.ListComp elt [⟨.Tuple [.Name x px,.Name y py] k1 pt,iter,ifs,0⟩] scope pos) (z9 caps wi (pK X.K 2 (ic (fk 0) (ic (fk 1) pJ))) tt te):=by
  intro pins s σ H Q I h
  rw [eval_ListComp]
  refine wpAny_comprehension_free (use:=none) rfl hs hclos hkind hnames (wpAny_mono (hi pins s σ H _ I h) (λv s1 h1=>wpAny_mono h1 (λitv s2 h2=>?_) λ_ _ e=>e) λ_ _ e=>e)
  obtain⟨it,fp,tn,J,H1,rfl,I2,T,st0,hfp,hq⟩:=h2
  refine tN (RR:=λacc C=>compPost (model X.prog X.w) X.A X.xe none (EP X pins σ Q) acc C) hc hcl hcap hlen hkind hcell hhas (λC s H fp=>rL (X:=dc X (x::y::xs) scope cl C s H fp) hc (d8 (cI (i:=0) hN rfl (.inl hx) (.inr hx)) (d8 (cI (i:=1) hN rfl (.inl hy) (.inr hy)) kZ))) ht he I2 T st0 hfp hq ?_
  intro s1 D C m H' I4 hn l q
  exact⟨m,hn,λh' hsb=>⟨.ref D,H',I4.letGo l hsb,rfl,q⟩⟩
theorem zK {elt iter:Expr}{x y z:Str}{px py pz pt pos spos:Pos}{k1:Nat}{ifs:List Expr}{scope:Scope}{cl:List (Str×Addr)}{k:Nat}(caps:List Nat)(xs:List Str){wi:TI}{tt:TT}{te:TE}
    (hsw:swapsWith (.ListComp elt [⟨.Tuple [.Name x px,.Name y py] k1 pt,iter,ifs,0⟩] scope pos) (some (.Name z pz)) spos.line X.env=pure true)
    (hNX:X.N.Nodup) (hk:X.N[k]?=some z) (hz:X.env.scope.names.lookup z=some .local)
    (hc:X.calm=true) (hclos:closureFor scope X.env=pure cl) (hcl:kK X.env.cells cl) (hcap:jG X (relabel scope X.env) cl caps xs) (hlen:caps.length=xs.length)
    (hkind:scope.kind = .function) (hcell:∀y∈scope.names,y.2≠.cell) (hnames:∀y∈scope.names,y.2 = .local→scope.names.lookup y.1=some .local)
    (hhas:((relabel scope X.env).names.all λy=>!(y.2 == .cell || y.2 == .free) || (cl.lookup y.1).isSome)=true)
    (hx:(relabel scope X.env).names.lookup x=some .local) (hy:(relabel scope X.env).names.lookup y=some .local) (hN:(x::y::xs).Nodup) (hi:PI X (.Tuple [.Name x px,.Name y py] k1 pt) iter wi) (ht:∀C s H fp,wG (dc X (x::y::xs) scope cl C s H fp) ifs tt) (he:∀C s H fp,PE (dc X (x::y::xs) scope cl C s H fp) elt te)
    (hs:∀v,foldedSetIterable iter X.env v=pure v:=by intro _;rfl):PS X (.Assign [.Name z pz] (.ListComp elt [⟨.Tuple [.Name x px,.Name y py] k1 pt,iter,ifs,0⟩] scope pos) spos) (uz (z9 caps wi (pK X.K 2 (ic (fk 0) (ic (fk 1) pJ))) tt te) (fk k)):=by
  intro pins s σ H D I h
  rw [exec_Assign_Name_used _ _ _ _ hsw]
  refine wpAny_bind (wpAny_standAt (wpAny_bind ?_))
  show wpAny _ X.A (do let _ ←comprehension (.ListComp elt [⟨.Tuple [.Name x px,.Name y py] k1 pt,iter,ifs,0⟩] scope pos) scope X.env _ (newList []) false (eval iter X.env) (some (assign (.Name z pz) X.env))) _ _ s
  refine wpAny_bind (wpAny_mono (wpAny_comprehension_free (use:=some (assign (.Name z pz) X.env)) (Q:=λ_ s'=>SP X pins D .next s') rfl hs hclos hkind hnames
    (wpAny_mono (hi pins s σ H _ I h) (λxv s₁ h₁=>wpAny_mono h₁ (λitv s2 h2=>?_) λ_ _ e=>e) λ_ _ e=>e)) (λ_ s' hq=>wpAny_pure (wpAny_pure hq)) λ_ _ e=>e)
  obtain⟨it,fp,tn,J,H1,rfl,I2,T,st0,hfp,hq⟩:=h2
  refine tN (Q:=λv H1=>fk k v σ H1 D.nx) (RR:=λacc C=>compPost (model X.prog X.w) X.A X.xe (some (assign (.Name z pz) X.env)) (λ_ s'=>SP X pins D .next s') acc C) hc hcl hcap hlen hkind hcell hhas (λC s H fp=>rL (X:=dc X (x::y::xs) scope cl C s H fp) hc (d8 (cI (i:=0) hN rfl (.inl hx) (.inr hx)) (d8 (cI (i:=1) hN rfl (.inl hy) (.inr hy)) kZ))) ht he I2 T st0 hfp hq ?_
  intro s1 Da C m H' I4 hn l q
  show wpAny _ X.A (assign (.Name z pz) X.env (.ref Da)) _ _ s1
  refine wpAny_assign_Name (nZ (v:=.ref Da) I4 hNX hk (.inl hz) rfl (λs4 I5 hsb=>?_) (.inr hz))
  obtain⟨a,hsa,ha⟩:=hsb
  have hCa:C≠a:=by
    rcases ha with ha|ha
    · rw [ha];exact l.2.1
    · exact Ne.symm (l.2.2.2.1 z a ha)
  refine⟨m,hn.sameBut hsa hCa,λh' hsb=>⟨_,H',I5.letGo l hsb,q⟩⟩
end
open PySem PySem.Spec PyProof.Rows
def cZ (H:Hp)(as:List Addr)(fs:List (Int×Int)):Prop:=as.length=fs.length∧∀(i:Nat) (a:Addr) (b:Int×Int),as[i]?=some a→fs[i]?=some b→H a=some (.tup [.int b.1,.int b.2])
noncomputable def rD (b:Int×Nat):Int×Int:=(b.1,(b.2:Int))
theorem di.ints {H:Hp}{as:List Addr}{bs:List (Int×Nat)}(h:di H as bs):cZ H as (bs.map rD):=⟨by rw [List.length_map];exact h.1,λi a b e1 e2=>by
 rw [List.getElem?_map] at e2
 cases z:bs[i]? with
 | none=>rw [z] at e2;cases e2
 | some c=>
  rw [z] at e2
  cases e2
  exact h.2 i a c e1 z⟩
theorem cZ.same {H H':Hp}{as:List Addr}{fs:List (Int×Int)}(h:cZ H as fs)(g:aL H H'):cZ H' as fs:=⟨h.1,λi a b e1 e2=>g _ _ (h.2 i a b e1 e2)⟩
theorem di.same {H H':Hp}{as:List Addr}{fs:List (Int×Nat)}(h:di H as fs)(g:aL H H'):di H' as fs:=⟨h.1,λi a b e1 e2=>g _ _ (h.2 i a b e1 e2)⟩
theorem di.nil (H:Hp):di H [] []:=⟨rfl,λi a b e=>by simp at e⟩
theorem cZ.nil (H:Hp):cZ H [] []:=⟨rfl,λi a b e=>by simp at e⟩
theorem di.app {H:Hp}{as cs:List Addr}{bs ds:List (Int×Nat)}(h:di H as bs)(h':di H cs ds):di H (as++cs) (bs++ds):=by
 obtain⟨h1,h2⟩:=h
 obtain⟨h3,h4⟩:=h'
 refine⟨by simp [h1,h3],λi a b e1 e2=>?_⟩
 by_cases hl:i<as.length
 ·rw [List.getElem?_append_left hl] at e1
  rw [List.getElem?_append_left (by omega)] at e2
  exact h2 i a b e1 e2
 ·rw [List.getElem?_append_right (by omega)] at e1 e2
  rw [←h1] at e2
  exact h4 _ a b e1 e2
theorem cZ.app {H:Hp}{as cs:List Addr}{bs ds:List (Int×Int)}(h:cZ H as bs)(h':cZ H cs ds):cZ H (as++cs) (bs++ds):=by
 obtain⟨h1,h2⟩:=h
 obtain⟨h3,h4⟩:=h'
 refine⟨by simp [h1,h3],λi a b e1 e2=>?_⟩
 by_cases hl:i<as.length
 ·rw [List.getElem?_append_left hl] at e1
  rw [List.getElem?_append_left (by omega)] at e2
  exact h2 i a b e1 e2
 ·rw [List.getElem?_append_right (by omega)] at e1 e2
  rw [←h1] at e2
  exact h4 _ a b e1 e2
theorem di.one {H:Hp}{a:Addr}{b:Int×Nat}(h:H a=some (.tup [.int b.1,.int (b.2:Int)])):di H [a] [b]:=⟨rfl,λi x y e1 e2=>by
 cases i with
 | zero=>cases e1;cases e2;exact h
 | succ i=>simp at e1⟩
theorem cZ.one {H:Hp}{a:Addr}{b:Int×Int}(h:H a=some (.tup [.int b.1,.int b.2])):cZ H [a] [b]:=⟨rfl,λi x y e1 e2=>by
 cases i with
 | zero=>cases e1;cases e2;exact h
 | succ i=>simp at e1⟩
theorem cZ.get {H:Hp}{as:List Addr}{fs:List (Int×Int)}(h:cZ H as fs){i:Nat}{a:Addr}(e:as[i]?=some a):∃b,fs[i]?=some b∧H a=some (.tup [.int b.1,.int b.2]):=by
 have hl:=(List.getElem?_eq_some_iff.mp e).1
 have e2:fs[i]?=some (fs[i]'(by have:=h.1;omega)):=List.getElem?_eq_getElem _
 exact⟨_,e2,h.2 i a _ e e2⟩
theorem cZ.at {H:Hp}{as:List Addr}{fs:List (Int×Int)}(h:cZ H as fs){i:Nat}{b:Int×Int}(e:fs[i]?=some b):∃a,as[i]?=some a∧H a=some (.tup [.int b.1,.int b.2]):=by
 have hl:=(List.getElem?_eq_some_iff.mp e).1
 have e2:as[i]?=some (as[i]'(by have:=h.1;omega)):=List.getElem?_eq_getElem _
 exact⟨_,e2,h.2 i _ b e2 e⟩
theorem di.get {H:Hp}{as:List Addr}{fs:List (Int×Nat)}(h:di H as fs){i:Nat}{a:Addr}(e:as[i]?=some a):∃b,fs[i]?=some b∧H a=some (.tup [.int b.1,.int (b.2:Int)]):=by
 have hl:=(List.getElem?_eq_some_iff.mp e).1
 have e2:fs[i]?=some (fs[i]'(by have:=h.1;omega)):=List.getElem?_eq_getElem _
 exact⟨_,e2,h.2 i a _ e e2⟩
section
variable {K:PySem.W.Frag}{H:Hp}{l m:Addr}{as cs:List Addr}{fs gs:List (Int×Int)}{Q:VK}
end
def oC (J:It)(caps:List Nat)(g:TG)(tt:TT)(te:TE)(σ:St)(H:Hp)(Q:VK):Prop:=∃(n:Nat) (W:Nat→List V→Hp→Prop),n≤sizeLine∧W 0 [] H∧∀i ys H2,W i ys H2 →
 (J.stop i H2∧∀p,H2 p=none→Q (.ref p) (upd H2 p (.lst ys))) ∨
 (J.go i H2∧i<n∧∀x H3,J.pd i H2 x H3→∀o1 o2:Option V,g x (o1::o2::cg caps σ) H3 λσ4 H4=>(∃v1 v2:V,σ4=some v1::some v2::cg caps σ)∧tt σ4 H4 λb H5=>if b=true then te σ4 H5 λv H6=>W (i+1) (ys++[v]) H6 else W (i+1) ys H5)
theorem Ce {caps:List Nat}{wi:TI}{g:TG}{tt:TT}{te:TE}{σ:St}{H:Hp}{Q:VK}:z9 caps wi g tt te σ H Q=wi σ H λJ H1=>oC J caps g tt te σ H1 Q:=rfl
theorem IC {K:PySem.W.Frag}{a:Addr}{caps:List Nat}{tt:TT}{te:TE}{σ:St}{H:Hp}{Q:VK}{as:List Addr}{fs:List (Int×Int)}(Pv:Nat→List V→Hp→Prop)(hn:fs.length≤sizeLine)(h0:Pv 0 [] H)(hl:∀i ys H,Pv i ys H→az K H a (as.map V.ref)∧cZ H as fs)
    (hs:∀i (b:Int×Int) ys H,fs[i]?=some b→Pv i ys H→tt (some (.int b.1)::some (.int b.2)::cg caps σ) H λt H4=>if t=true then te (some (.int b.1)::some (.int b.2)::cg caps σ) H4 λv H5=>Pv (i+1) (ys++[v]) H5 else Pv (i+1) ys H4)
    (hd:∀ys H,Pv fs.length ys H→∀p,H p=none→Q (.ref p) (upd H p (.lst ys))):oC (mL K a) caps (pK K 2 (ic (fk 0) (ic (fk 1) pJ))) tt te σ H Q:=by
  refine⟨fs.length,λi ys H=>i≤fs.length∧Pv i ys H,hn,⟨Nat.zero_le _,h0⟩,?_⟩
  rintro i ys H2 ⟨hi,p⟩
  obtain⟨hS,hP⟩:=hl i ys H2 p
  have hal:=hP.1
  by_cases hlt:i<fs.length
  · have hb:fs[i]?=some fs[i]:=List.getElem?_eq_getElem hlt
    obtain⟨x,hx,hkx⟩:=hP.at hb
    have hv:(as.map V.ref)[i]?=some (.ref x):=by rw [List.getElem?_map,hx];rfl
    refine .inr ⟨⟨_,_,hS,hv⟩,hlt,?_⟩
    rintro y H3 ⟨rfl,hy⟩ o1 o2
    have hxy:y = .ref x:=(Option.some.inj (hv.symm.trans (hy _ hS))).symm
    subst hxy
    refine⟨x,_,rfl,dC.of hkx,rfl,_,_,rfl,_,_,rfl,rfl,⟨_,_,rfl⟩,?_⟩
    have key:=hs i _ ys H3 hb p
    have e2:(λ(t:Bool) (H4:Hp)=>if t=true then te (some (.int fs[i].1)::some (.int fs[i].2)::cg caps σ) H4 λv H5=>Pv (i+1) (ys++[v]) H5 else Pv (i+1) ys H4)=λt H4=>if t=true then te (some (.int fs[i].1)::some (.int fs[i].2)::cg caps σ) H4 λv H5=>i+1≤fs.length∧Pv (i+1) (ys++[v]) H5 else i+1≤fs.length∧Pv (i+1) ys H4:=by
      funext t H4
      have z:i+1≤fs.length:=hlt
      simp only [z,true_and]
    rw [e2] at key
    exact key
  · have e:i=fs.length:=by omega
    subst e
    exact .inl ⟨⟨_,hS,by rw [List.length_map];omega⟩,hd ys H2 p⟩
theorem IB {K:PySem.W.Frag}{a:Addr}{caps:List Nat}{tt:TT}{te:TE}{σ:St}{H:Hp}{Q:VK}(ns:List Int)(Pv:Nat→List V→Hp→Prop)(hn:ns.length≤sizeLine)(h0:Pv 0 [] H)(hl:∀i ys H,Pv i ys H→az K H a (ns.map V.int))
    (hs:∀i (x:Int) ys H H',ns[i]?=some x→Pv i ys H→aL H H'→tt (some (.int (i:Int))::some (.int x)::cg caps σ) H' λt H4=>if t=true then te (some (.int (i:Int))::some (.int x)::cg caps σ) H4 λv H5=>Pv (i+1) (ys++[v]) H5 else Pv (i+1) ys H4)
    (hd:∀ys H,Pv ns.length ys H→∀p,H p=none→Q (.ref p) (upd H p (.lst ys))):oC (yk K a) caps (pK K 2 (ic (fk 0) (ic (fk 1) pJ))) tt te σ H Q:=by
  refine⟨ns.length,λi ys H=>i≤ns.length∧Pv i ys H,hn,⟨Nat.zero_le _,h0⟩,?_⟩
  rintro i ys H2 ⟨hi,p⟩
  have hS:=hl i ys H2 p
  by_cases hlt:i<ns.length
  · have hb:ns[i]?=some ns[i]:=List.getElem?_eq_getElem hlt
    have hv:(ns.map V.int)[i]?=some (.int ns[i]):=by rw [List.getElem?_map,hb];rfl
    refine .inr ⟨⟨_,_,hS,hv⟩,hlt,?_⟩
    rintro y H3 ⟨y,t,hy,ht,rfl,rfl⟩ o1 o2
    have hy:=hy _ hS
    rw [hv] at hy
    cases hy
    refine⟨t,_,rfl,dC.of aS,rfl,_,_,rfl,_,_,rfl,rfl,⟨_,_,rfl⟩,?_⟩
    have key:=hs i _ ys H2 _ hb p (ly ht (.tup [.int (i:Int),.int ns[i]]))
    have e2:(λ(t:Bool) (H4:Hp)=>if t=true then te (some (.int (i:Int))::some (.int ns[i])::cg caps σ) H4 λv H5=>Pv (i+1) (ys++[v]) H5 else Pv (i+1) ys H4)=λt H4=>if t=true then te (some (.int (i:Int))::some (.int ns[i])::cg caps σ) H4 λv H5=>i+1≤ns.length∧Pv (i+1) (ys++[v]) H5 else i+1≤ns.length∧Pv (i+1) ys H4:=by
      funext t H4
      have z:i+1≤ns.length:=hlt
      simp only [z,true_and]
    rw [e2] at key
    exact key
  · have e:i=ns.length:=by omega
    subst e
    exact .inl ⟨⟨_,hS,by rw [List.length_map];omega⟩,hd ys H2 p⟩
open PySem PySem.Spec PyProof.Rows
section
variable {X:Cx}
end
open PySem PySem.Spec PyProof.Rows
namespace Dx
section
variable {pr:Program}{wo:World}{Ar:Around}{Er:Value→Shared→Prop}{st:Shared}{d it:Addr}{od:Obj}{es:Array DictEntry}{ep i:Nat}
end
end Dx
section
variable {X:Cx}{tg:Expr}
end
section
variable {X:Cx}
end
open PySem PySem.Spec PyProof.Rows
section
variable {X:Cx}{pins:List (Addr×Obj)}{σ:St}{H:Hp}{s:Shared}{h':Heap}
theorem Inv.Ia {t':Nat}{ch:List Addr}(I:Inv X pins σ H s)(k:∀b u,b∉ch→s.heap.get? b=some u→h'.get? b=some u)(f:∀b,b∈ch→gF X pins H b):Inv X pins σ H { s with heap:=h',toks:=t' }:=by
 have nit:∀b u,H b=some u→b∉ch:=λb u e z=>cf e (f b z).1 rfl
 refine I.step (g':=s.gens) (d':=s.drawn) (ch:=ch) (λb hb=>?_) (λb o _ _ hc e _=>k b o hc e) (λb o _ _ hc e _=>⟨o.slots,k b o hc e⟩) (λ_ _ _ _ n=>n)
  (λb o hc e=>⟨o,k b o hc e⟩) (λ_ _ e=>e) (λ_ _ _ e=>e) (λb ps e=>⟨#[],by rw [e];simp⟩) (λm hm=>?_) (λb u e=>?_) I.bare
 ·obtain⟨f0,f1,f2,f3,f4,f5⟩:=f b hb
  exact⟨f3,f1,f4,f5⟩
 ·obtain⟨o,es,ep,ho,r⟩:=hm
  exact⟨o,es,ep,k _ o (λz=>(f _ z).2.1 rfl) ho,r⟩
 ·refine (I.bb b u e).gB (λc v hc q=>k c v ?_ q) (λ_ q=>q) λ_ _ q=>q
  rcases hc with z|z
  ·rw [z];exact nit b u e
  ·exact nit c _ z
theorem Inv.HZ {t':Nat}{a:Addr}{o:HO}{ch:List Addr}(I:Inv X pins σ H s)(k:∀b u,b∉ch→s.heap.get? b=some u→h'.get? b=some u)(ha:a=s.heap.objs.size)(new:cT X.prog X.w (upd H a o) h' a o)(f:∀b,b∈ch→gF X pins H b) :
    Inv X pins σ (upd H a o) { s with heap:=h',toks:=t' }:=by
  have hnone:H a=none:=I.bb.fresh (by rw [ha];exact Nat.le_refl _)
  have lts:∀b u,s.heap.get? b=some u→b≠a:=λb u q=>by rw [ha];exact Nat.ne_of_lt (Heap.lt_size q)
  have ntr:∀b u,H b=some u→b∉ch:=λb u q z=>cf q (f b z).1 rfl
  refine I.step (g':=s.gens) (d':=s.drawn) (ch:=ch) (λb hb=>?_) (λb u _ _ hc q _=>k b u hc q) (λb u _ _ hc q _=>⟨u.slots,k b u hc q⟩) (λb u _ q n=>by rw [aI (lts b u q)];exact n)
    (λb u hc q=>⟨u,k b u hc q⟩) (λb zs q=>by rw [aI (cf q hnone)];exact q) (λb u v q=>by rw [aI (cf q hnone)];exact q) (λb ps q=>⟨#[],by rw [aI (cf q hnone),q];simp⟩) (λm hm=>?_) (λb u q=>?_) I.bare
  · obtain⟨f0,f1,f2,f3,f4,f5⟩:=f b hb
    exact⟨f3,f1,f4,f5⟩
  · obtain⟨u,es,ep,ho,r⟩:=hm
    exact⟨u,es,ep,k _ u (λz=>(f _ z).2.1 rfl) ho,r⟩
  · by_cases hb:b=a
    · subst hb
      rw [aS] at q
      cases q
      exact new
    · rw [aI hb] at q
      have w:cT X.prog X.w H s.heap b u:=I.bb b u q
      have ntr':∀c,(c=b∨∃u,H c=some u)→c∉ch:=λc hc=>by
        rcases hc with z|⟨_,z⟩
        · rw [z];exact ntr b u q
        · exact ntr c _ z
      refine w.gB (λc v hc q'=>k c v (ntr' c ?_) q') (λc q'=>?_) λc zs q'=>?_
      · rcases hc with z|z
        · exact .inl z
        · exact .inr ⟨_,z⟩
      · rw [aI (cf q' hnone)];exact q'
      · rw [aI (cf q' hnone)];exact q'
end
theorem gr {x y:Nat}(h:x≠y):¬(x:Addr)=(y:Addr):=h
theorem j0 {h:Heap}{l c:Addr}{xs:Array Value}(hl:h.IsList l xs)(hc:∃o,h.get? c=some o∧o.cls≠.type "list"):l≠c:=by
 obtain⟨o,ho,n⟩:=hc
 obtain⟨u,hu,cu,_⟩:=hl
 intro z
 rw [z,ho] at hu
 cases hu
 exact n cu
section
variable {X:Cx}{e e2:Expr}{te te2:TE}{p pos:Pos}
end
open PySem PySem.Spec PyProof.Rows
section
variable {X:Cx}{e:Expr}{te:TE}{p p2 pos pos2:Pos}
end
open PySem PySem.Spec PyProof.Rows
section
variable {X:Cx}{body suite suite2:List Stmt}{b₀ b₁:Stmt}{D D2:Addr}{cx cx2:Str}{np np2 hpos hpos2 pos:Pos}{tb:(St→XK)→TS}{ts ts2:TS}
end
section
variable {X:Cx}
end
open PySem PySem.Spec PyProof.Rows
noncomputable def Gi (z:Str):It:=⟨λi _=>i<z.cps.size,λi H x H'=>H'=H∧∃c,z.cps[i]?=some c∧x = .str ⟨#[c]⟩,λi _=>z.cps.size≤i⟩
theorem Ax {P:Program}{w:World}{K:PySem.W.Frag}{tg:Expr}(z:Str)(t:Tok)(it:Addr)(T:String)(hT:T="str_ascii_iterator"∨T="str_iterator"):Turn P w K tg (Gi z) [it] it (λi h=>h.IsStrIter it T z t i) where
  mem:=by simp
  obj:=λi h st b hb=>by
    have e:b=it:=by simpa using hb
    subst e
    obtain⟨o,e,c,d⟩:=st
    exact⟨o,e,λv z=>by rw [d] at z;cases z⟩
  keep:=λi h h' st k=>by
    obtain⟨o,e,r⟩:=st
    exact⟨o,k it (by simp) o e,r⟩
  item:=by
    intro X hP hw hK hc i pins s σ H E I hf st hg
    subst hP hw hK
    obtain⟨f0,f1,f2,f3,f4,f5⟩:=hf it (by simp)
    have hg':i<z.cps.size:=hg
    have hi:z.cps[i]?=some z.cps[i]:=by simp [hg']
    have fin:∀h':Heap,h'.IsStrIter it T z t (i+1)→Heap.SameBut it s.heap h'→∃u,some (Value.str ⟨#[z.cps[i]]⟩ s.toks)=some u ∧
        wpAny (model X.prog X.w) X.A (letOwnedTupleGo tg (.ref it) u) (λ_ s2=>∃x H',Inv X pins σ H' s2∧RelV x u∧(Gi z).pd i H x H'∧s2.heap.IsStrIter it T z t (i+1)∧∀b∈[it],H' b=none) E { s with heap:=h',toks:=s.toks+1 }:=λh' st' sb=>by
      have I1:Inv X pins σ H { s with heap:=h',toks:=s.toks+1 }:=I.turned (t':=s.toks+1) (λb o hb e=>(sb.2 b hb).trans e) f0 f1 f3 f4 f5
      obtain⟨o,e,c,d⟩:=id st'
      exact⟨_,rfl,u7 (s:={ s with heap:=h',toks:=s.toks+1 }) e c d (by rcases hT with rfl | rfl<;>decide) ⟨.str ⟨#[z.cps[i]]⟩,H,I1,⟨_,rfl⟩,⟨rfl,_,hi,rfl⟩,st',λb hb=>(hf b hb).1⟩⟩
    rcases hT with rfl|rfl
    · exact wpAny_pyNext_ascii_item st hi λh' st' sb=>fin h' st' sb
    · exact wpAny_pyNext_wide_item st hi λh' st' sb=>fin h' st' sb
  done:=by
    intro X hP hw hK hc i pins s σ H E I hf st hg
    subst hP hw hK
    obtain⟨f0,f1,f2,f3,f4,f5⟩:=hf it (by simp)
    have hg':z.cps.size≤i:=hg
    have hx:z.cps[i]?=none:=by simp [hg']
    rcases hT with rfl|rfl
    · exact wpAny_pyNext_ascii_end (I.ok.hd hc) st hx λh' eb=>⟨rfl,I.turned (t':=s.toks) (λb o hb e=>eb b o hb e) f0 f1 f3 f4 f5⟩
    · exact wpAny_pyNext_wide_end (I.ok.hd hc) st hx λh' eb=>⟨rfl,I.turned (t':=s.toks) (λb o hb e=>eb b o hb e) f0 f1 f3 f4 f5⟩
  self:=λ_ _ _ _ _ st h=>by
    rcases hT with rfl|rfl
    · exact wpAny_pyIter_striter_ascii st h
    · exact wpAny_pyIter_striter_wide st h
def IP (tl:TE):TI:=λσ H R=>tl σ H λx H1=>∃z,x = .str z∧R (Gi z) H1
theorem Jr {X:Cx}{tg l:Expr}{tl:TE}(hl:PE X l tl):PI X tg l (IP tl):=by
 intro pins s σ H R I h
 refine bU (hl pins s σ H _ I h) λv s1 ⟨x,H1,I1,r1,q1⟩=>?_
 obtain⟨z,e,q⟩:=q1
 subst e
 obtain⟨t,rfl⟩:=r1
 have fp:∀b∈[s1.heap.objs.size],gF X pins H1 b:=λb hb=>by
  have e:b=s1.heap.objs.size:=by simpa using hb
  subst e
  exact I1.pH (Nat.le_refl _) (I1.bb.fresh (Nat.le_refl _))
 cases ha:z.cps.all (·<128)
 ·refine wpAny_pyIter_wide ha ?_
  exact⟨s1.heap.objs.size,[s1.heap.objs.size],_,_,H1,rfl,I1.kept (t':=s1.toks) λb o e=>Heap.get?_push_of_some _ e,Ax z t _ "str_iterator" (.inr rfl),⟨_,Heap.get?_push_size _ rfl,rfl,rfl⟩,fp,q⟩
 ·refine wpAny_pyIter_ascii ha ?_
  exact⟨s1.heap.objs.size,[s1.heap.objs.size],_,_,H1,rfl,I1.kept (t':=s1.toks) λb o e=>Heap.get?_push_of_some _ e,Ax z t _ "str_ascii_iterator" (.inl rfl),⟨_,Heap.get?_push_size _ rfl,rfl,rfl⟩,fp,q⟩
section
variable {g:TG}{tb:TS}{D:Ends}{σ:St}{H:Hp}{caps:List Nat}{tt:TT}{te:TE}{Q:VK}
theorem JP (z:Str)(Pv:Nat→List V→Hp→Prop)(hn:z.cps.toList.length≤sizeLine)(h0:Pv 0 [] H)
    (hs:∀i c ys H,z.cps.toList[i]?=some c→Pv i ys H→tt (some (.str ⟨#[c]⟩)::cg caps σ) H λb H4=>if b=true then te (some (.str ⟨#[c]⟩)::cg caps σ) H4 λv H5=>Pv (i+1) (ys++[v]) H5 else Pv (i+1) ys H4)
    (hd:∀ys H,Pv z.cps.toList.length ys H→∀p,H p=none→Q (.ref p) (upd H p (.lst ys))):iU (Gi z) caps tt te σ H Q:=by
  have hsz:z.cps.toList.length=z.cps.size:=by simp
  refine⟨z.cps.size,λi ys H=>i≤z.cps.size∧Pv i ys H,by omega,⟨Nat.zero_le _,h0⟩,?_⟩
  rintro i ys H2 ⟨hi,p⟩
  by_cases hlt:i<z.cps.size
  · refine .inr ⟨hlt,hlt,?_⟩
    rintro x H3 ⟨rfl,c,hc,rfl⟩
    have key:=hs i c ys H3 (by simpa using hc) p
    have e2:(λ(b:Bool) (H4:Hp)=>if b=true then te (some (.str ⟨#[c]⟩)::cg caps σ) H4 λv H5=>Pv (i+1) (ys++[v]) H5 else Pv (i+1) ys H4)=λb H4=>if b=true then te (some (.str ⟨#[c]⟩)::cg caps σ) H4 λv H5=>i+1≤z.cps.size∧Pv (i+1) (ys++[v]) H5 else i+1≤z.cps.size∧Pv (i+1) ys H4:=by
      funext b H4
      have w:i+1≤z.cps.size:=hlt
      simp only [w,true_and]
    rw [e2] at key
    exact key
  · have e:i=z.cps.size:=by omega
    subst e
    exact .inl ⟨Nat.le_refl _,hd ys H2 (by rw [hsz];exact p)⟩
end
section
variable {X:Cx}
def BX:V→List V→Hp→VK→Prop:=λx vs H Q=>∃z y,x = .str z∧vs=[.str y]∧Q (.bl (Txt.startswith z y)) H
theorem xc:By X "str.startswith" BX:=by
 intro pins s σ H x xs v us Q I rx rs h
 obtain⟨z,y,rfl,rfl,q⟩:=h
 obtain⟨t,rfl⟩:=rx
 obtain⟨u,rfl,t',rfl⟩:=Vals.one rs
 exact SC.startswith ⟨.bl _,H,I,rfl,q⟩
theorem xr:∀(n:Nat) (l:List Str),Vals (l.map V.str) (strsFrom n l)
 | _,[]=>.nil
 | n,x::r=>.cons ⟨_,rfl⟩ (xr (n+1) r)
def Jv:V→List V→Hp→VK→Prop:=λx vs H Q=>∃z y,x = .str z∧vs=[.str y]∧0<y.length∧z.length+2≤sizeLine∧∀l,H l=none→Q (.ref l) (upd H l (.lst ((Txt.split z y).map V.str)))
theorem ze:By X "str.split" Jv:=by
 intro pins s σ H x xs v us Q I rx rs h
 obtain⟨z,y,rfl,rfl,hy,hz,q⟩:=h
 obtain⟨t,rfl⟩:=rx
 obtain⟨u,rfl,t',rfl⟩:=Vals.one rs
 have hy':(y.length == 0)=false:=by simpa using Nat.ne_of_gt hy
 have fin:∀(its:List Value) (tk:Nat),Vals ((Txt.split z y).map V.str) its→((Txt.split z y).map V.str).length≤sizeLine→EP X pins σ Q (.ref s.heap.objs.size) { s with toks:=tk,heap:=s.heap.push { cls:=.type "list",data:=.seq its.toArray } }:=λits tk r hl=>
  ⟨.ref s.heap.objs.size,_,I.laid (t':=tk) (λb o e=>Heap.get?_push_of_some _ e) (Nat.le_refl _) (show cT X.prog X.w _ _ _ (.lst _) from ⟨hl,its,0,r,Heap.get?_push_size _ rfl⟩),rfl,q _ (I.bb.fresh (Nat.le_refl _))⟩
 have hpn:(Builtin.Str.partsBetween z (Builtin.Str.occurrences z y 0 z.length (z.length+1)) y.length).length≤sizeLine:=by
  have hh:(Builtin.Str.occurrences z y 0 z.length (z.length+1)).length≤z.length+1:=StrLaws.occ_length_le_len z y 0 z.length (z.length+1)
  generalize (Builtin.Str.occurrences z y 0 z.length (z.length+1))=oc at hh
  generalize z.length=n at hh hz
  unfold Builtin.Str.partsBetween
  simp only [List.length_map,List.length_zip,List.length_cons,List.length_append,List.length_nil]
  refine Nat.le_trans (Nat.min_le_left _ _) ?_
  omega
 cases h1:(decide (z.length<y.length) || decide (Builtin.Str.strKind z<Builtin.Str.strKind y))
 ·cases hf:(Builtin.Str.occurrences z y 0 z.length (z.length+1)).isEmpty
  ·have e:Txt.split z y=Builtin.Str.partsBetween z (Builtin.Str.occurrences z y 0 z.length (z.length+1)) y.length:=(if_neg (ne_true_of_eq_false h1)).trans (if_neg (ne_true_of_eq_false hf))
   rw [e] at fin
   exact call_meets F.slot_str_split (typeIs_str _ _ _) F.entry_str_split (F.args_str_split_2 _ _) (meets_str_split_sep z y t t' h1 hy' hf (by omega) hpn) (fin _ _ (xr _ _) (by rw [List.length_map];exact hpn))
  ·have e:Txt.split z y=[z]:=(if_neg (ne_true_of_eq_false h1)).trans (if_pos hf)
   rw [e] at fin
   exact call_meets F.slot_str_split (typeIs_str _ _ _) F.entry_str_split (F.args_str_split_2 _ _) (meets_str_split_not_found z y t t' h1 hy' hf) (fin _ _ (.cons ⟨_,rfl⟩ .nil) (by show 1≤sizeLine;decide))
 ·have e:Txt.split z y=[z]:=if_pos h1
  rw [e] at fin
  exact call_meets F.slot_str_split (typeIs_str _ _ _) F.entry_str_split (F.args_str_split_2 _ _) (meets_str_split_cannot_occur z y t t' h1) (fin _ _ (.cons ⟨_,rfl⟩ .nil) (by show 1≤sizeLine;decide))
theorem B4:∀{zs:List Str} {us:List Value},Vals (zs.map V.str) us→∃l:List (Str×Tok),us=strValues l∧l.map (·.1)=zs
 | [],_,.nil=>⟨[],rfl,rfl⟩
 | z::zs,_,.cons ⟨t,e⟩ r=>by
  obtain⟨l,e1,e2⟩:=B4 r
  exact⟨(z,t)::l,by rw [e,e1];rfl,by rw [List.map_cons,e2]⟩
def rJoin (K:PySem.W.Frag):V→List V→Hp→VK→Prop:=λx vs H Q=>∃z a zs,x = .str z∧vs=[.ref a]∧az K H a (zs.map V.str)∧JoinOk z zs=true∧Q (.str (Txt.join z zs)) H
theorem oS:By X "str.join" (rJoin X.K):=by
 intro pins s σ H x xs v us Q I rx rs h
 obtain⟨z,a,zs,rfl,rfl,hq,hj,q⟩:=h
 obtain⟨t,rfl⟩:=rx
 obtain⟨u,rfl,ru⟩:=Vals.one rs
 cases ru
 obtain⟨its,r,p,_⟩:=I.list hq
 obtain⟨l,rfl,el⟩:=B4 r
 exact SC.join p.isList el hj λt' k=>⟨.str _,H,I.tok _,⟨_,rfl⟩,q⟩
def KJ:V→Option Int→Option Int→Hp→VK→Prop:=λx lo hi H Q=>∃z,x = .str z∧z.length≤sizeLine∧Q (.str (Txt.slice z lo hi)) H
theorem ED:Iq X KJ:=by
 intro pins s σ H x v vl vu lo hi sl Q I rx hs pl pu h
 obtain⟨z,rfl,hz,q⟩:=h
 obtain⟨t,rfl⟩:=rx
 refine⟨"str",_,F.slot_str_getitem.lookup,typeIs_str _ _ _,?_⟩
 have fin:∀(lo hi:Option Int),(∀{Q:VK},Q (.str (Txt.slice z lo hi)) H→(Txt.slice z lo hi).length≤sizeLine∧∀t' k,EP X pins σ Q (.str (Txt.slice z lo hi) t') { s with toks:=k }):=λlo hi {Q} q=>
  ⟨Nat.le_trans (Txt.slice_le z _ _) hz,λt' k=>⟨.str _,H,I.tok _,⟨_,rfl⟩,q⟩⟩
 cases pl with
 | none=>
  cases pu with
  | none=>exact wpAny_getItem_str_slice (l:=none) (u:=none) (st:=none) hs rfl (post_val_or_str (fin none none q))
  | int j u=>exact wpAny_getItem_str_slice (l:=none) (u:=some (j,u)) (st:=none) hs rfl (post_val_or_str (fin none (some j) q))
 | int i u'=>
  cases pu with
  | none=>exact wpAny_getItem_str_slice (l:=some (i,u')) (u:=none) (st:=none) hs rfl (post_val_or_str (fin (some i) none q))
  | int j u=>exact wpAny_getItem_str_slice (l:=some (i,u')) (u:=some (j,u)) (st:=none) hs rfl (post_val_or_str (fin (some i) (some j) q))
def Gy:List V→Hp→VK→Prop:=λxs H Q=>∃z n,xs=[.str z]∧PySem.intText? z=some n∧z.length≤640∧Q (.int n) H
theorem Dy:fz X (.type "int") Gy:=by
 intro pins s σ H xs us Q I r h
 obtain⟨z,n,rfl,hn,hl,q⟩:=h
 obtain⟨u,rfl,t,rfl⟩:=vals1 r
 exact PySem.W.KIN.call_text hn hl ⟨.int n,H,I.tok _,⟨_,rfl⟩,q⟩
end
open PySem PySem.Spec PyProof.Rows
section
variable {M:Model}{A:Around}{EX:Value→Shared→Prop}{s:Shared}{env:Env}
end
section
variable {X:Cx}{pins:List (Addr×Obj)}{σ:St}{H:Hp}{s:Shared}
end
section
variable {prog:Program}{w:World}{A:Around}{R:Result→Shared→Prop}{s:Shared}
end
section
variable {X:Cx}
end
end L2
namespace Tx
open PySem PySem.NumText
noncomputable def neg (l:List Nat):Bool:=match l with
 | 45::_=>true
 | _=>false
noncomputable def i0 (l:List Nat):List Nat:=match l with
 | 45::r=>r
 | _=>l
theorem lD {l:List Nat}(h:neg l=true):l=45::i0 l:=by
 unfold neg at h
 split at h
 ·rfl
 ·cases h
theorem jK {l:List Nat}(h:neg l=false):i0 l=l:=by
 unfold neg at h
 unfold i0
 split at h
 ·cases h
 ·rfl
structure Wr (l:List Nat):Prop where
 one:1≤(i0 l).length
 most:(i0 l).length≤60
 all:∀c∈i0 l,48≤c∧c≤57
 head:∀r,i0 l=48::r→r=[]∧neg l=false
noncomputable instance (l:List Nat):Decidable (Wr l):=Classical.propDecidable _
noncomputable def valOf (l:List Nat):Int:=if neg l then -((digitsVal (i0 l):Nat):Int) else ((digitsVal (i0 l):Nat):Int)
theorem Wr.len {z:Str}(w:Wr z.cps.toList):z.length≤61:=by
 have h1:z.length=z.cps.toList.length:=by simp [Str.length]
 have h2:=w.most
 cases h:neg z.cps.toList with
 | true=>rw [h1,lD h];simp only [List.length_cons];omega
 | false=>rw [h1,←jK h];omega
theorem Wr.reads {z:Str}(w:Wr z.cps.toList):intText? z=some (valOf z.cps.toList):=by
 have hl:=w.len
 have ne:i0 z.cps.toList≠[]:=λe=>by
  have:=w.one
  rw [e] at this
  simp at this
 unfold valOf
 cases h:neg z.cps.toList with
 | true=>exact intText_neg (lD h) w.all ne (by omega)
 | false=>
  have e:=jK h
  have hd:=w.all
  rw [e] at hd ne ⊢
  exact intText_digits hd ne (by omega)
end Tx
namespace L2
open PySem PySem.Spec PyProof.Rows
theorem J9 {K:PySem.W.Frag}{z:Str}{H:Hp}:Cc K "str" (.str z) H=True:=eq_true rfl
end L2
namespace Tx
open PySem
theorem ext {a b:Str}(e:a.cps.toList=b.cps.toList):a=b:=by
 obtain⟨x⟩:=a
 obtain⟨y⟩:=b
 exact congrArg Str.mk (Array.toList_inj.mp e)
theorem len_list (z:Str):z.length=z.cps.toList.length:=by simp [Str.length]
theorem B3 {z:Str}{i:Int}(h0:0≤i)(h:i≤z.length):(Txt.slice z (some i) none).cps.toList=z.cps.toList.drop i.toNat:=by
 rw [PyProof.Rows.slice_from_eq h0 h rfl]
 show List.take _ _=_
 rw [List.take_of_length_le]
 rw [List.length_drop,←len_list]
 omega
theorem vC {z:Str}{c:Nat}:Txt.startswith z ⟨#[c]⟩=decide (z.cps.toList.head?=some c):=by
 obtain⟨⟨l⟩⟩:=z
 cases l with
 | nil=>simp [Txt.startswith,Str.length]
 | cons a r=>
  unfold Txt.startswith Builtin.Str.subAt
  simp only [Str.length,List.size_toArray,List.length_cons,List.length_nil,Nat.zero_add,List.head?_cons,Option.some.injEq]
  rw [Bool.eq_iff_iff]
  simp
theorem minus:(Str.ofString "-")=⟨#[45]⟩:=by decide +kernel
theorem i5:(Str.ofString "0")=⟨#[48]⟩:=by decide +kernel
theorem Fw {l:List Nat}:neg l=decide (l.head?=some 45):=by
 cases l with
 | nil=>rfl
 | cons a r=>
  by_cases h:a=45
  ·subst h
   simp [neg]
  ·simp only [List.head?_cons,Option.some.injEq,h,decide_false]
   unfold neg
   split
   ·rename_i z
    cases z
    exact absurd rfl h
   ·rfl
theorem zX {z:Str}:Txt.startswith z (Str.ofString "-")=neg z.cps.toList:=by rw [minus,vC,Fw]
noncomputable def words (z:Str):List Str:=Txt.split z (Str.ofString ",")
noncomputable def fv (z:Str):Option (List Int):=if (words z).length≤13∧∀w,w∈words z→Wr w.cps.toList then some ((words z).map λw=>valOf w.cps.toList) else none
theorem Ep {z:Str}{ms:List Int}(h:fv z=some ms):(words z).length≤13∧(∀w,w∈words z→Wr w.cps.toList)∧ms=(words z).map λw=>valOf w.cps.toList:=by
 unfold fv at h
 split at h
 ·rename_i c
  exact⟨c.1,c.2,(Option.some.inj h).symm⟩
 ·cases h
theorem HD {z:Str}(h1:(words z).length≤13)(h2:∀w,w∈words z→Wr w.cps.toList):fv z=some ((words z).map λw=>valOf w.cps.toList):=if_pos ⟨h1,h2⟩
open PySem PySem.NumText
theorem fold_lt:∀(l:List Nat) (a:Nat),(∀c∈l,48≤c∧c≤57)→l.foldl (λacc c=>acc*10+(c-48)) a<(a+1)*10^l.length
 | [],a,_=>by simp
 | c::l,a,h=>by
  have hc:=h c (.head _)
  have ih:=fold_lt l (a*10+(c-48)) λx hx=>h x (.tail _ hx)
  refine Nat.lt_of_lt_of_le ih ?_
  rw [List.length_cons,Nat.pow_succ,Nat.mul_comm (10^l.length) 10,←Nat.mul_assoc]
  exact Nat.mul_le_mul_right _ (by omega)
theorem str_len {x:Int}(h:x.natAbs<10^60):(Str.ofString (toString x)).length≤61:=by
 rw [ofString_length]
 exact int_text_length_le10 (by decide) h
theorem rV:∀(ms:List Int),(∀x,x∈ms→x.natAbs<10^60)→((ms.map λx=>Str.ofString (toString x)).map (·.length)).sum≤61*ms.length
 | [],_=>Nat.le_refl _
 | x::ms,h=>by
  have ih:=rV ms λy hy=>h y (.tail _ hy)
  have hx:=str_len (h x (.head _))
  simp only [List.map_cons,List.sum_cons,List.length_cons]
  omega
theorem comma:(Str.ofString ",").length=1:=by decide +kernel
theorem Hj {ms:List Int}(hl:ms.length≤14)(h:∀x,x∈ms→x.natAbs<10^60):JoinOk (Str.ofString ",") (ms.map λx=>Str.ofString (toString x))=true:=by
 have:=rV ms h
 refine PyProof.Rows.joinOk_of ?_
 rw [comma,List.length_map]
 omega
theorem ue {ms:List Int}(hl:ms.length≤14)(h:∀x,x∈ms→x.natAbs<10^60):(Txt.join (Str.ofString ",") (ms.map λx=>Str.ofString (toString x))).length≤868:=by
 have h1:=rV ms h
 have h2:=StrLaws.join_length_le (Str.ofString ",") (ms.map λx=>Str.ofString (toString x))
 rw [comma,List.length_map] at h2
 unfold Txt.join
 rw [StrLaws.glued_eq_join]
 omega
end Tx
namespace L2
open PySem PySem.Spec PyProof.Rows
@[irreducible] def Il (X:Cx) (es:List Expr) (ta:TA):Prop:=PA X es ta
theorem Il.of {X:Cx}{es:List Expr}{ta:TA}(h:PA X es ta):Il X es ta:=by unfold Il;exact h
open PySem
theorem bY {t u:TS}{D:Ends}{σ:St}{H:Hp}(h:∀X:St→Hp→Prop,(∀σ' H',u D σ' H'→X σ' H')→t { D with nx:=X } σ H):Di t u D σ H:=h (u D) λ_ _ z=>z
theorem BC {G:Prop}(h:∀X:Prop,(G→X)→X):G:=h G id
open PySem PySem.Spec PyProof.Rows
noncomputable def yK (w:World)(l:List (Str×Tok×Value)):Array DictEntry:=(l.map λx=>({ hash:=PyData.keyHash w.params x.1,key:=.str x.1 x.2.1,val:=x.2.2 }:DictEntry)).toArray
structure ke (K:PySem.W.Frag)(w:World)(a:Addr)(l:List (Str×Tok×Value)):Prop where
 at_:∃ep,K.lookup a=some { cls:=.type "dict",data:=.dict (yK w l) ep }
 no:(a == sysModules)=false
 nd:(l.map (·.1)).Nodup
noncomputable def kvsOf (l:List (Str×Tok×Value)):List (Key×Value):=l.map λx=>(Sum.inr x.1,x.2.2)
noncomputable def atK (l:List (Str×Tok×Value))(z:Str):Option Value:=(l.find? λx=>x.1=z).map (·.2.2)
theorem y6 (l:List (Str×Tok×Value))(z:Str):valueAt (kvsOf l) (Sum.inr z:Key)=atK l z:=by
 induction l with
 | nil=>rfl
 | cons x l ih=>
  unfold valueAt kvsOf atK at *
  simp only [List.map_cons,List.find?_cons]
  by_cases c:x.1=z
  ·have:(Sum.inr x.1:Key)=Sum.inr z:=by rw [c]
   simp [c]
  ·have:¬(Sum.inr x.1:Key)=Sum.inr z:=λe=>c (Sum.inr.inj e)
   simp only [decide_eq_false c,decide_eq_false this]
   exact ih
theorem w9 {P:Program}{w:World}:∀l:List (Str×Tok×Value),Pairs (dZ P w) (l.map λx=>({ hash:=PyData.keyHash w.params x.1,key:=.str x.1 x.2.1,val:=x.2.2 }:DictEntry)) (kvsOf l)
 | []=>.nil
 | x::l=>.cons (oo P w x.1 x.2.1) rfl (w9 l)
theorem ke.dict {P:Program}{w:World}{K:PySem.W.Frag}{a:Addr}{l:List (Str×Tok×Value)}{h:Heap}(d:ke K w a l)(k:K.In h):h.DictOf (dZ P w) a (kvsOf l):=by
  obtain⟨ep,e⟩:=d.at_
  refine⟨_,_,ep,k _ _ e,⟨rfl,rfl,rfl⟩,rfl,λx hx=>?_,?_,?_⟩
  · unfold yK at hx
    rw [List.mem_toArray,List.mem_map] at hx
    obtain⟨y,_,rfl⟩:=hx
    exact⟨Sum.inr y.1,oo P w y.1 y.2.1,rfl⟩
  · unfold yK
    exact w9 l
  · have e2:(kvsOf l).map (·.1)=(l.map (·.1)).map (Sum.inr:Str→Key):=by
      unfold kvsOf
      rw [List.map_map,List.map_map]
      rfl
    rw [e2]
    exact List.Pairwise.map _ (λ_ _ n z=>n (Sum.inr.inj z)) d.nd
def Dc (l:List (Str×Tok×Value))(ti:TE):TE:=λσ H Q=>ti σ H λy H1=>∃z b,y = .str z∧atK l z=some (.ref b)∧Q (.ref b) H1
def F0 (l:List (Str×Tok×Value))(ti:TE):TE:=λσ H Q=>ti σ H λy H1=>∃z,y = .str z∧Q (.bl (atK l z).isSome) H1
def Dd (l:List (Str×Tok×Value))(ti:TE):TE:=λσ H Q=>ti σ H λy H1=>∃z,y = .str z∧Q (.bl (!(atK l z).isSome)) H1
section
variable {X:Cx}{x:Str}{p pos:Pos}{i:Expr}{ti:TE}{a:Addr}{l:List (Str×Tok×Value)}
theorem sE (D:ke X.K X.w a l)(hg:Gl X x)(hm:X.mg x=some (.ref a))(hi:PE X i ti)(hs:EY i)(hdb:(x == ("__debug__":Str))=false:=by decide):PE X (.Subscript (.Name x p) i pos) (Dc l ti):=by
 intro pins s σ H Q I h
 refine B5 PySem.F.slot_dict_getitem.lookup hs (jc I hg hm ?_ hdb)
 refine bU (hi pins s σ H _ I h) λiv s2 ⟨y,H2,I2,ry,z,b,ey,g,q2⟩=>?_
 subst ey
 have dd:s2.heap.DictOf (dZ X.prog X.w) a (kvsOf l):=D.dict I2.fA
 exact⟨dd.typeIs,wpAny_getItem_of (nU (k:=Sum.inr z) ry) dd.mapOf ((y6 l z).trans g) ⟨.ref b,H2,I2.tok _,rfl,q2⟩⟩
theorem Eh (D:ke X.K X.w a l)(hg:Gl X x)(hm:X.mg x=some (.ref a))(hi:PE X i ti)(hdb:(x == ("__debug__":Str))=false:=by decide):PC X .In i (.Name x p) (F0 l ti):=by
 intro pins s σ H Q I h
 refine bU (hi pins s σ H _ I h) λiv s2 ⟨y,H2,I2,ry,z,ey,q2⟩=>jc I2 hg hm ?_ hdb
 subst ey
 have dd:s2.heap.DictOf (dZ X.prog X.w) a (kvsOf l):=D.dict I2.fA
 refine wpAny_in_of (nU (k:=Sum.inr z) ry) D.no dd.mapOf ?_
 rw [y6]
 exact⟨.bl _,H2,I2.tok _,rfl,q2⟩
theorem Ht (D:ke X.K X.w a l)(hg:Gl X x)(hm:X.mg x=some (.ref a))(hi:PE X i ti)(hdb:(x == ("__debug__":Str))=false:=by decide):PC X .NotIn i (.Name x p) (Dd l ti):=by
 intro pins s σ H Q I h
 refine bU (hi pins s σ H _ I h) λiv s2 ⟨y,H2,I2,ry,z,ey,q2⟩=>jc I2 hg hm ?_ hdb
 subst ey
 have dd:s2.heap.DictOf (dZ X.prog X.w) a (kvsOf l):=D.dict I2.fA
 refine wpAny_notIn_of (nU (k:=Sum.inr z) ry) D.no dd.mapOf ?_
 rw [y6]
 exact⟨.bl _,H2,I2.tok _,rfl,q2⟩
end
def zY (T:Addr→Sp→Prop)(E:XK)(tf:TE)(t:TA):TE:=λσ H Q=>tf σ H λf H1=>∃g sp,f = .ref g∧T g sp∧t σ H1 λvs H2=>sp vs H2 Q E
structure mr (P:Program)(w:World)(K:PySem.W.Frag)(mg:Str→Option Value)(base:Heap)(CX:jy)(k:Nat)(T:Addr→Sp→Prop):Prop where
 ok:∀g sp,T g sp→∃fd ps,bc P w K mg base CX k g fd ps sp∧Binds K fd ps []∧PySem.W.keepIn K (.ref g)=true
section
variable {X:Cx}{CX:jy}{k j:Nat}{E:XK}{T:Addr→Sp→Prop}{pos:Pos}{fe e:Expr}{es:List Expr}{tf:TE}{t:TA}
theorem zC (hT:mr X.prog X.w X.K X.mg X.base CX j T)(hf:PE X fe tf)(hr:en k X.A)(hx:Passes CX X E)(ha:PA X (e::es) t)(hjk:j≤k:=by decide)
    (hev:eval (.Call fe (e::es) [] pos) X.env=(do callWith pos (←eval fe X.env) [] (backTo pos (starEach (e::es) X.env)) (backToKw pos (keywordEach [] X.env))):=by rfl)
    (he:starEach (e::es) X.env=(false,eval e X.env)::starEach es X.env:=by rfl) (hpl:(backTo pos (starEach es X.env)).any (·.1)=false:=by rfl) :
    PE X (.Call fe (e::es) [] pos) (zY T E tf t):=by
  intro pins s σ H Q I h
  rw [hev]
  refine wpAny_bind (bU (hf pins s σ H _ I h) λu s1 ⟨v,H1,I1,rv,g,sp,ev,tg,q⟩=>?_)
  subst ev
  obtain rfl:u=Value.ref g:=rv
  obtain⟨fd,ps,F,b,kp⟩:=hT.ok g sp tg
  refine PySem.W.callWith_K (h₀:=X.base) I.ok.mod.vg kp (bU (ha pos pins s1 σ H1 _ I1 q) λus s2 ⟨vs,H2,I2,r,q2⟩=>⟨I2.fA,?_⟩) he hpl
  exact zS F (hr.mono hjk) b .nil hx I2 r (by rw [List.append_nil];exact q2)
end
end L2
namespace Tx
open PySem PySem.NumText
theorem DF {c:Nat}:∀{a b X Y:List Nat},c∉a→c∉b→a++c::X=b++c::Y→a=b∧X=Y
 | [],[],X,Y,_,_,h=>⟨rfl,(List.cons.inj h).2⟩
 | [],y::b,X,Y,_,hb,h=>absurd (by rw [←(List.cons.inj h).1];exact .head _) hb
 | x::a,[],X,Y,ha,_,h=>absurd (by rw [(List.cons.inj h).1];exact .head _) ha
 | x::a,y::b,X,Y,ha,hb,h=>by
  obtain⟨e1,e2⟩:=List.cons.inj h
  obtain⟨e3,e4⟩:=DF (λz=>ha (.tail _ z)) (λz=>hb (.tail _ z)) e2
  exact⟨by rw [e1,e3],e4⟩
theorem app_list (a b:Str):(a++b).cps.toList=a.cps.toList++b.cps.toList:=by
 show (a.cps++b.cps).toList=_
 simp
theorem join_cons (c:Nat)(w v:Str)(r:List Str):(Str.join ⟨#[c]⟩ (w::v::r)).cps.toList=w.cps.toList++c::(Str.join ⟨#[c]⟩ (v::r)).cps.toList:=by
 show (w++(⟨#[c]⟩:Str)++Str.join ⟨#[c]⟩ (v::r)).cps.toList=_
 rw [app_list,app_list,List.append_assoc]
 rfl
theorem yS {c:Nat}:∀(A B:List Str),A≠[]→B≠[]→(∀w∈A,c∉w.cps.toList)→(∀w∈B,c∉w.cps.toList)→(Str.join ⟨#[c]⟩ A).cps.toList=(Str.join ⟨#[c]⟩ B).cps.toList→A=B
 | [],_,h,_,_,_,_=>absurd rfl h
 | _,[],_,h,_,_,_=>absurd rfl h
 | [a],[b],_,_,_,_,h=>by rw [ext (a:=a) (b:=b) h]
 | [a],b::v::r,_,_,ha,_,h=>by
  rw [join_cons] at h
  have h:a.cps.toList=b.cps.toList++c::(Str.join ⟨#[c]⟩ (v::r)).cps.toList:=h
  exact absurd (by rw [h];simp) (ha a (.head _))
 | a::v::r,[b],_,_,_,hb,h=>by
  rw [join_cons] at h
  have h:a.cps.toList++c::(Str.join ⟨#[c]⟩ (v::r)).cps.toList=b.cps.toList:=h
  exact absurd (by rw [←h];simp) (hb b (.head _))
 | a::v::r,b::u::t,_,_,ha,hb,h=>by
  rw [join_cons,join_cons] at h
  obtain⟨e1,e2⟩:=DF (ha a (.head _)) (hb b (.head _)) h
  rw [ext e1,yS (v::r) (u::t) (List.cons_ne_nil _ _) (List.cons_ne_nil _ _) (λw hw=>ha w (.tail _ hw)) (λw hw=>hb w (.tail _ hw)) e2]
theorem FT (z:Str)(y:Str):Txt.split z y≠[]:=by
 unfold Txt.split
 split
 ·exact List.cons_ne_nil _ _
 ·split
  ·exact List.cons_ne_nil _ _
  ·rw [StrLaws.partsBetween_eq]
   obtain⟨p,q,e⟩:=StrLaws.partsFrom_ne z y.length 0 (Builtin.Str.occurrences z y 0 z.length (z.length+1))
   rw [e]
   exact List.cons_ne_nil _ _
theorem zW {c:Nat}{ws:List Str}(h0:ws≠[])(h:∀w∈ws,c∉w.cps.toList):Txt.split (Str.join ⟨#[c]⟩ ws) ⟨#[c]⟩=ws:=by
 refine yS (c:=c) _ _ (FT _ _) h0 (StrLaws.split_free _ c) h ?_
 rw [StrLaws.join_split]
noncomputable def dg (m:Nat):List Nat:=(Nat.toDigits 10 m).map Char.toNat
theorem wW:∀d:Nat,d<10→48≤(Nat.digitChar d).toNat∧(Nat.digitChar d).toNat≤57:=by decide
theorem oP (m:Nat):∀c∈dg m,48≤c∧c≤57:=by
 unfold dg
 induction m using Nat.strongRecOn with
 | _ m ih=>
  by_cases h:m<10
  ·rw [Nat.toDigits_of_lt_base h]
   intro c hc
   rw [List.map_cons,List.map_nil,List.mem_singleton] at hc
   rw [hc]
   exact wW m h
  ·have hm:m%10<10:=Nat.mod_lt m (by decide)
   have t:Nat.toDigits 10 (m/10)++Nat.toDigits 10 (m%10)=Nat.toDigits 10 (10*(m/10)+m%10):=Nat.toDigits_append_toDigits (by decide) (by omega) hm
   rw [Nat.div_add_mod] at t
   rw [←t,List.map_append,Nat.toDigits_of_lt_base hm]
   intro c hc
   rcases List.mem_append.mp hc with z|z
   ·exact ih (m/10) (by omega) c z
   ·rw [List.map_cons,List.map_nil,List.mem_singleton] at z
    rw [z]
    exact wW _ hm
theorem u0 (m:Nat):digitsVal (dg m)=m:=PySem.W.KIN.val_back m
theorem yH {k m:Nat}(hk:1≤k)(h:m<10^k):(dg m).length≤k:=by
 unfold dg
 rw [List.length_map]
 exact PyProof.Rows.digits10_le hk h
theorem DJ (m:Nat):1≤(dg m).length:=by
 unfold dg
 rw [List.length_map]
 exact PyProof.Rows.tDigits_len_ge 10 m
theorem BJ {m:Nat}{r:List Nat}(h:dg m=48::r):r=[]:=by
 have h1:=u0 m
 rw [h,digitsVal_zero] at h1
 have h2:digitsVal r<10^r.length:=by
  have:=fold_lt r 0 λc hc=>oP m c (by rw [h];exact .tail _ hc)
  rw [Nat.zero_add,Nat.one_mul] at this
  exact this
 cases r with
 | nil=>rfl
 | cons c r=>
  rw [h1] at h2
  have:=yH (k:=(c::r).length) (by simp) h2
  rw [h] at this
  simp at this
  omega
theorem not_neg {l:List Nat}(h:∀c∈l,48≤c∧c≤57):neg l=false:=by
 unfold neg
 split
 ·have:=h 45 (.head _)
  omega
 ·rfl
noncomputable def tx (x:Int):Str:=Str.ofString (toString x)
theorem EN (m:Nat):(tx (m:Int)).cps.toList=dg m:=PySem.W.KIN.signs_num m
theorem EO (m:Nat):(tx (-((m+1:Nat):Int))).cps.toList=45::dg (m+1):=by
 unfold tx
 have e1:toString (-((m+1:Nat):Int))="-"++toString ((m+1:Nat):Int):=rfl
 rw [e1]
 have e2:(Str.ofString ("-"++toString ((m+1:Nat):Int))).cps.toList=45::(Str.ofString (toString ((m+1:Nat):Int))).cps.toList:=by
  simp [Str.ofString_eq_toList]
 rw [e2,PySem.W.KIN.signs_num]
 rfl
theorem vH {x:Int}(h:x.natAbs<10^60):Wr (tx x).cps.toList∧valOf (tx x).cps.toList=x:=by
 rcases (show (∃m:Nat,x=m)∨∃m:Nat,x = -((m+1:Nat):Int) from by
  rcases (show x<0∨0≤x by omega) with z|z
  ·exact .inr ⟨x.natAbs-1,by omega⟩
  ·exact .inl ⟨x.toNat,by omega⟩) with⟨m,rfl⟩ | ⟨m,rfl⟩
 ·rw [EN]
  have nn:=not_neg (oP m)
  have ef:=jK nn
  refine⟨⟨by rw [ef];exact DJ m,by rw [ef];exact yH (by decide) (by simpa using h),by rw [ef];exact oP m,λr e=>⟨BJ (by rw [←ef];exact e),nn⟩⟩,?_⟩
  unfold valOf
  rw [nn,if_neg (by decide),ef,u0]
 ·rw [EO]
  have ef:i0 (45::dg (m+1))=dg (m+1):=rfl
  refine⟨⟨by rw [ef];exact DJ _,by rw [ef];exact yH (by decide) (by rw [Int.natAbs_neg,Int.natAbs_natCast] at h;exact h),by rw [ef];exact oP _,λr e=>?_⟩,?_⟩
  ·rw [ef] at e
   have h1:=BJ e
   have h2:=u0 (m+1)
   rw [e,h1] at h2
   exact absurd h2 (by show ¬(0*10+(48-48)=m+1);omega)
  ·show (if true=true then -((digitsVal (i0 (45::dg (m+1))):Nat):Int) else _)=_
   rw [if_pos rfl,ef,u0]
theorem p0 (x:Int):∀c∈(tx x).cps.toList,c=45∨(48≤c∧c≤57):=by
 rcases (show (∃m:Nat,x=m)∨∃m:Nat,x = -((m+1:Nat):Int) from by
  rcases (show x<0∨0≤x by omega) with z|z
  ·exact .inr ⟨x.natAbs-1,by omega⟩
  ·exact .inl ⟨x.toNat,by omega⟩) with⟨m,rfl⟩ | ⟨m,rfl⟩
 ·rw [EN]
  exact λc hc=>.inr (oP m c hc)
 ·rw [EO]
  intro c hc
  rcases List.mem_cons.mp hc with z|z
  ·exact .inl z
  ·exact .inr (oP _ c z)
noncomputable def shown (f:List Int):Str:=Txt.join (Str.ofString ",") (f.map tx)
theorem yx:(Str.ofString ",")=⟨#[44]⟩:=by decide +kernel
theorem FR:(Str.ofString " ")=⟨#[32]⟩:=by decide +kernel
theorem join_eq (y:Str)(ws:List Str):Txt.join y ws=Str.join y ws:=by
 unfold Txt.join
 exact StrLaws.glued_eq_join y ws
theorem oA {f:List Int}(h0:f≠[]):words (shown f)=f.map tx:=by
 unfold words shown
 rw [join_eq,yx]
 refine zW (by simpa using h0) λw hw z=>?_
 obtain⟨x,_,rfl⟩:=List.mem_map.mp hw
 rcases p0 x 44 z with e|e<;>omega
theorem vy {f:List Int}(h0:f≠[])(hl:f.length≤13)(h:∀x,x∈f→x.natAbs<10^60):fv (shown f)=some f:=by
 have e:=HD (z:=shown f) (by rw [oA h0,List.length_map];exact hl) (λw hw=>by
  rw [oA h0] at hw
  obtain⟨x,hx,rfl⟩:=List.mem_map.mp hw
  exact (vH (h x hx)).1)
 rw [e,oA h0,List.map_map]
 refine congrArg some ((List.map_congr_left λx hx=>?_).trans (List.map_id f))
 exact (vH (h x hx)).2
theorem vd {c:Nat}{P:Nat→Prop}(hc:P c):∀(ws:List Str),(∀w∈ws,∀x∈w.cps.toList,P x)→∀x∈(Str.join ⟨#[c]⟩ ws).cps.toList,P x
 | [],_,x,hx=>by cases hx
 | [w],h,x,hx=>h w (.head _) x hx
 | w::v::r,h,x,hx=>by
  rw [join_cons] at hx
  rcases List.mem_append.mp hx with z|z
  ·exact h w (.head _) x z
  ·rcases List.mem_cons.mp z with z|z
   ·rw [z];exact hc
   ·exact vd hc (v::r) (λu hu=>h u (.tail _ hu)) x z
theorem C1 (f:List Int):32∉(shown f).cps.toList:=λz=>by
 unfold shown at z
 rw [join_eq,yx] at z
 have:=vd (c:=44) (P:=λx=>x≠32) (by decide) (f.map tx) (λw hw x hx=>by
  obtain⟨y,_,rfl⟩:=List.mem_map.mp hw
  rcases p0 y x hx with e|e<;>omega) 32 z
 exact this rfl
theorem Cb (x:Int):32∉(tx x).cps.toList:=λz=>by
 rcases p0 x 32 z with e|e<;>omega
end Tx
namespace L2
open PySem PySem.Spec PyProof.Rows
section
variable {prog:Program}{w:World}{A:Around}{E:Value→Shared→Prop}{s:Shared}
theorem D9 {i t:Addr}{k:Nat}{its:Array Value}{v:Value}{Q:Value→Shared→Prop}(ii:IsTupIter s.heap i t k)(tt:IsTup s.heap t its)(hv:its[k]?=some v)
    (go:∀g,IsTupIter g i t (k+1)→Heap.SameBut i s.heap g→Q v { s with heap:=g }):wpAny (model prog w) A (Builtin.SmallTypes.nextOf (.ref i)) Q E s:=by
  obtain⟨u,gu,cu,du⟩:=id ii
  obtain⟨y,gy,_,n,dy⟩:=tt
  unfold Builtin.SmallTypes.nextOf
  refine wpAny_bind (wpAny_callSpecial?_slot (name:=Str.ofString "__next__") ii.typeIs slot_tupleiter_next (wpAny_call_entry slot_tupleiter_next ii.typeIs entry_tupleiter_next ?_ (args_tupleiter_next _)))
  show wpAny _ _ (field (.ref i) 0 >>= _) _ _ s
  refine wpAny_bind (wpAny_field gu du (x:=.ref t) rfl ?_)
  show wpAny _ _ (if (Value.ref t == Value.none)=true then _ else _) _ _ s
  rw [if_neg (by intro z;cases z)]
  show wpAny _ _ (field (.ref i) 1 >>= _) _ _ s
  refine wpAny_bind (wpAny_field gu du (x:=.int k 0) rfl (wpAny_bind (wpAny_seqItems gy dy ?_)))
  simp only [Int.toNat_natCast,hv]
  refine wpAny_bind (wpAny_setField gu du (by simp) (wpAny_pure ⟨v,rfl,wpAny_pure (go _ ⟨_,Heap.get?_update_self _ gu (Obj.isFreed_of_fields (Obj.data_mapFields du _)),(Obj.cls_mapFields ..).trans cu,?_⟩ (Heap.SameBut.update ..))⟩))
  rw [Obj.data_mapFields du]
  simp [rawInt]
theorem Hm {i t:Addr}{k:Nat}{its:Array Value}{Q:Value→Shared→Prop}(hh:A.handled=none)(ii:IsTupIter s.heap i t k)(tt:IsTup s.heap t its)(hv:its[k]?=none)
    (go:∀g e,Heap.ExtBut i s.heap g→(∃o,g.get? e=some o∧o.cls = .type "StopIteration")→E (.ref e) { s with heap:=g }):wpAny (model prog w) A (Builtin.SmallTypes.nextOf (.ref i)) Q E s:=by
  obtain⟨u,gu,cu,du⟩:=id ii
  obtain⟨y,gy,_,n,dy⟩:=tt
  unfold Builtin.SmallTypes.nextOf
  refine wpAny_bind (wpAny_callSpecial?_slot (name:=Str.ofString "__next__") ii.typeIs slot_tupleiter_next (wpAny_call_entry slot_tupleiter_next ii.typeIs entry_tupleiter_next ?_ (args_tupleiter_next _)))
  show wpAny _ _ (field (.ref i) 0 >>= _) _ _ s
  refine wpAny_bind (wpAny_field gu du (x:=.ref t) rfl ?_)
  show wpAny _ _ (if (Value.ref t == Value.none)=true then _ else _) _ _ s
  rw [if_neg (by intro z;cases z)]
  show wpAny _ _ (field (.ref i) 1 >>= _) _ _ s
  refine wpAny_bind (wpAny_field gu du (x:=.int k 0) rfl (wpAny_bind (wpAny_seqItems gy dy ?_)))
  simp only [Int.toNat_natCast,hv]
  refine wpAny_bind (wpAny_rule (wpAny_bind (wpAny_setField gu du (by simp) (wpAny_bind ?_))))
  simp only [newExc,newTuple]
  refine wpAny_bind (wpAny_newObj_type (wpAny_bind (m:=firstArgMember _ _) (wpAny_of_eq (a:=Value.none) (by first | rfl | (simp only [firstArgMember];rfl)) (wpAny_newObj_type ?_ (by size_fits)))) (by size_fits))
  simp only [raiseNew]
  refine wpAny_bind (wpAny_handled ?_)
  first | rw [show A.in1.handled=none from hh] | rw [hh]
  exact wpAny_bind (wpAny_pure (wpAny_throw (go _ _ (((Heap.SameBut.update ..).extBut.push _).push _) ⟨_,Heap.get?_push_size _ rfl,rfl⟩)))
theorem EV {z TI TO i1 i2 l1 l2:Addr}{k:Nat}{xs ys:Array Value}{x y a b:Value}{Q:Option Value→Shared→Prop}(D:ZipApart z TI TO i1 i2 l1 l2)
    (zz:IsZip s.heap z TI TO .none) (pI:IsPair s.heap TI (.ref i1) (.ref i2)) (pO:IsPair s.heap TO a b)
    (j1:IsTupIter s.heap i1 l1 k) (j2:s.heap.IsListIter i2 l2 k) (m1:IsTup s.heap l1 xs) (m2:s.heap.IsList l2 ys) (hx:xs[k]?=some x) (hy:ys[k]?=some y)
    (go:∀g,IsZip g z TI TO (rawInt s.heap.objs.size)→IsPair g TO x y→IsTupIter g i1 l1 (k+1)→g.IsListIter i2 l2 (k+1)→IsPair g s.heap.objs.size x y →
      (∀c o,c≠z→c≠TO→c≠i1→c≠i2→s.heap.get? c=some o→g.get? c=some o)→Q (some (.ref s.heap.objs.size)) { s with heap:=g }) :
    wpAny (model prog w) A (pyNext (.ref z)) Q E s:=by
  have ty:s.TypeIs (.ref z) "zip":=⟨_,zz,rfl⟩
  unfold pyNext
  refine wpAny_bind (wpAny_attempt (wpAny_callSpecial?_slot (name:=Str.ofString "__next__") ty F.slot_zip_next (wpAny_call_entry F.slot_zip_next ty F.entry_zip_next ?_ (F.args_zip_next_1 _))))
  show wpAny _ _ (field (.ref z) 2 >>= _) _ _ _
  refine wpAny_bind (wpAny_field zz rfl (x:=.bool false) rfl ?_)
  show wpAny _ _ (field (.ref z) 3 >>= _) _ _ _
  refine wpAny_bind (wpAny_field zz rfl (x:=.ref TI) rfl (wpAny_bind (wpAny_seqItems pI rfl ?_)))
  show wpAny _ _ (Builtin.SmallTypes.ownedTupleIsFree (.ref z) >>= _) _ _ _
  refine wpAny_bind ?_
  unfold Builtin.SmallTypes.ownedTupleIsFree
  refine wpAny_bind (wpAny_field zz rfl (x:=.none) rfl (wpAny_pure ?_))
  simp only [if_true]
  refine wpAny_bind (wpAny_rule (wpAny_bind (wpAny_field zz rfl (x:=.ref TO) rfl (wpAny_bind (wpAny_setField_rec zz (by simp) λg1 z1 s1=>?_)))))
  have z1:IsZip g1 z TI TO .ellipsis:=z1
  refine wpAny_bind ?_
  simp only [List.zipIdx_cons,List.zipIdx_nil,List.forIn_cons,List.forIn_nil]
  refine wpAny_bind (wpAny_bind (wpAny_onRaise ?_))
  show wpAny _ _ (Builtin.SmallTypes.nextOf (.ref i1) >>= _) _ _ _
  refine wpAny_bind (D9 (j1.extBut s1.extBut D.i1z) (m1.extBut s1.extBut D.l1z) hx λg2 n2 s2=>wpAny_pure ?_)
  have o2:IsPair g2 TO a b:=s2.extBut _ _ D.TOi1 (s1.extBut _ _ D.TOz pO)
  refine wpAny_bind (wpAny_seqItems o2 rfl (wpAny_bind (wpAny_updateSeq_pair o2 λg3 o3 s3=>wpAny_bind (wpAny_letGo (wpAny_pure ?_)))))
  have o3:IsPair g3 TO x b:=o3
  refine wpAny_bind (wpAny_bind (wpAny_onRaise ?_))
  show wpAny _ _ (Builtin.SmallTypes.nextOf (.ref i2) >>= _) _ _ _
  refine wpAny_bind (wpAny_nextOf_list_item (((j2.extBut s1.extBut D.i2z).extBut s2.extBut D.i12.symm).extBut s3.extBut D.TOi2.symm) (((m2.extBut s1.extBut D.l2z).extBut s2.extBut D.l2i1).extBut s3.extBut D.l2TO) hy λg4 n4 s4=>wpAny_pure ?_)
  have o4:IsPair g4 TO x b:=s4.extBut _ _ D.TOi2 o3
  refine wpAny_bind (wpAny_seqItems o4 rfl (wpAny_bind (wpAny_updateSeq_pair o4 λg5 o5 s5=>wpAny_bind (wpAny_letGo (wpAny_pure (wpAny_pure ?_))))))
  have o5:IsPair g5 TO x y:=o5
  refine wpAny_bind (wpAny_seqItems o5 rfl (wpAny_bind (wpAny_newTuple ?_)))
  have z5:IsZip g5 z TI TO .ellipsis:=s5.extBut _ _ D.TOz.symm (s4.extBut _ _ D.i2z.symm (s3.extBut _ _ D.TOz.symm (s2.extBut _ _ D.i1z.symm z1)))
  have len5:g5.objs.size=s.heap.objs.size:=by rw [s5.1,s4.1,s3.1,s2.1,s1.1]
  have old5:∀c o,c≠z→c≠TO→c≠i1→c≠i2→s.heap.get? c=some o→g5.get? c=some o:=λc o q1 q2 q3 q4 e=>s5.extBut _ _ q2 (s4.extBut _ _ q4 (s3.extBut _ _ q2 (s2.extBut _ _ q3 (s1.extBut _ _ q1 e))))
  have a5:IsTupIter g5 i1 l1 (k+1):=((n2.extBut s3.extBut D.TOi1.symm).extBut s4.extBut D.i12).extBut s5.extBut D.TOi1.symm
  have b5:g5.IsListIter i2 l2 (k+1):=n4.extBut s5.extBut D.TOi2.symm
  have lz:z<g5.objs.size:=Heap.lt_size z5
  show wpAny _ _ (Builtin.SmallTypes.ownedTupleHandOut (.ref z) (.ref g5.objs.size) >>= _) _ _ _
  refine wpAny_bind ?_
  unfold Builtin.SmallTypes.ownedTupleHandOut
  have z6:IsZip (g5.push { cls:=.type "tuple",data:=.seq #[x,y] }) z TI TO .ellipsis:=Heap.get?_push_of_some _ z5
  refine wpAny_bind (wpAny_setField_rec z6 (by simp) λg7 z7 s7=>?_)
  have z7:IsZip g7 z TI TO (rawInt g5.objs.size):=z7
  refine wpAny_setField_rec z7 (by simp) λg8 z8 s8=>?_
  have z8:IsZip g8 z TI TO (rawInt g5.objs.size):=z8
  have up:∀c o,c≠z→g5.get? c=some o→g8.get? c=some o:=λc o q e=>s8.extBut _ _ q (s7.extBut _ _ q (Heap.get?_push_of_some _ e))
  have t8:IsPair g8 g5.objs.size x y:=s8.extBut _ _ (Nat.ne_of_gt lz) (s7.extBut _ _ (Nat.ne_of_gt lz) (Heap.get?_push_size _ rfl))
  rw [len5] at z8 t8
  refine wpAny_pure ⟨_,rfl,wpAny_pure ?_⟩
  rw [len5]
  refine go g8 z8 (up _ _ D.TOz o5) ?_ (b5.at λo e=>up _ o D.i2z e) t8 λc o q1 q2 q3 q4 e=>up c o q1 (old5 c o q1 q2 q3 q4 e)
  obtain⟨o,e,r⟩:=a5
  exact⟨o,up _ o D.i1z e,r⟩
theorem Gh {z TI TO i1 i2 l1 l2:Addr}{k:Nat}{xs ys:Array Value}{a b:Value}{Q:Option Value→Shared→Prop}(hh:A.handled=none)(D:ZipApart z TI TO i1 i2 l1 l2)
    (zz:IsZip s.heap z TI TO .none) (pI:IsPair s.heap TI (.ref i1) (.ref i2)) (pO:IsPair s.heap TO a b)
    (j1:IsTupIter s.heap i1 l1 k) (j2:s.heap.IsListIter i2 l2 k) (m1:IsTup s.heap l1 xs) (m2:s.heap.IsList l2 ys) (hx:xs[k]?=none∨ys[k]?=none)
    (go:∀g,(∀c o,c≠z→c≠TO→c≠i1→c≠i2→s.heap.get? c=some o→g.get? c=some o)→Q none { s with heap:=g }):wpAny (model prog w) A (pyNext (.ref z)) Q E s:=by
  have ty:s.TypeIs (.ref z) "zip":=⟨_,zz,rfl⟩
  have stop:∀g e,(∀c o,c≠z→c≠TO→c≠i1→c≠i2→s.heap.get? c=some o→g.get? c=some o)→(∃o,g.get? e=some o∧o.cls = .type "StopIteration") →
      wpAny (model prog w) A (do if ←isInstance (.ref e) (.type "StopIteration") then pure none else throw (.ref e)) Q E { s with heap:=g }:=λg e kk ⟨o,ho,hc⟩=>
    wpAny_bind (wpAny_isInstance (T:="StopIteration") (b:=true) ⟨o,ho,hc⟩ isSubtype_stop (wpAny_pure (go g kk)))
  unfold pyNext
  refine wpAny_bind (wpAny_attempt (wpAny_callSpecial?_slot (name:=Str.ofString "__next__") ty F.slot_zip_next (wpAny_call_entry F.slot_zip_next ty F.entry_zip_next ?_ (F.args_zip_next_1 _))))
  show wpAny _ _ (field (.ref z) 2 >>= _) _ _ _
  refine wpAny_bind (wpAny_field zz rfl (x:=.bool false) rfl ?_)
  show wpAny _ _ (field (.ref z) 3 >>= _) _ _ _
  refine wpAny_bind (wpAny_field zz rfl (x:=.ref TI) rfl (wpAny_bind (wpAny_seqItems pI rfl ?_)))
  show wpAny _ _ (Builtin.SmallTypes.ownedTupleIsFree (.ref z) >>= _) _ _ _
  refine wpAny_bind ?_
  unfold Builtin.SmallTypes.ownedTupleIsFree
  refine wpAny_bind (wpAny_field zz rfl (x:=.none) rfl (wpAny_pure ?_))
  simp only [if_true]
  refine wpAny_bind (wpAny_rule (wpAny_bind (wpAny_field zz rfl (x:=.ref TO) rfl (wpAny_bind (wpAny_setField_rec zz (by simp) λg1 z1 s1=>?_)))))
  have z1:IsZip g1 z TI TO .ellipsis:=z1
  refine wpAny_bind ?_
  simp only [List.zipIdx_cons,List.zipIdx_nil,List.forIn_cons,List.forIn_nil]
  refine wpAny_bind (wpAny_bind (wpAny_onRaise ?_))
  show wpAny _ _ (Builtin.SmallTypes.nextOf (.ref i1) >>= _) _ _ _
  cases e1:xs[k]? with
  | none=>
    refine wpAny_bind (Hm hh (j1.extBut s1.extBut D.i1z) (m1.extBut s1.extBut D.l1z) e1 λg2 e s2 he=>?_)
    obtain⟨oe,hoe,hce⟩:=he
    have z2:IsZip g2 z TI TO .ellipsis:=s2 _ _ D.i1z.symm z1
    have ne:e≠z:=λq=>by subst q;rw [z2] at hoe;cases hoe;simp at hce
    exact wpAny_setField_rec z2 (by simp) λg3 _ s3=>stop g3 e (λc o q1 _ q3 _ q=>s3.extBut _ _ q1 (s2 _ _ q3 (s1.extBut _ _ q1 q))) ⟨oe,s3.extBut _ _ ne hoe,hce⟩
  | some x=>
    have e2:ys[k]?=none:=by
      rcases hx with q|q
      · rw [e1] at q;cases q
      · exact q
    refine wpAny_bind (D9 (j1.extBut s1.extBut D.i1z) (m1.extBut s1.extBut D.l1z) e1 λg2 n2 s2=>wpAny_pure ?_)
    have o2:IsPair g2 TO a b:=s2.extBut _ _ D.TOi1 (s1.extBut _ _ D.TOz pO)
    refine wpAny_bind (wpAny_seqItems o2 rfl (wpAny_bind (wpAny_updateSeq_pair o2 λg3 o3 s3=>wpAny_bind (wpAny_letGo (wpAny_pure ?_)))))
    refine wpAny_bind (wpAny_bind (wpAny_onRaise ?_))
    show wpAny _ _ (Builtin.SmallTypes.nextOf (.ref i2) >>= _) _ _ _
    refine wpAny_bind (wpAny_nextOf_list_end hh (((j2.extBut s1.extBut D.i2z).extBut s2.extBut D.i12.symm).extBut s3.extBut D.TOi2.symm) (((m2.extBut s1.extBut D.l2z).extBut s2.extBut D.l2i1).extBut s3.extBut D.l2TO) e2 λg4 e s4 he=>?_)
    obtain⟨oe,hoe,hce⟩:=he
    have z4:IsZip g4 z TI TO .ellipsis:=s4 _ _ D.i2z.symm (s3.extBut _ _ D.TOz.symm (s2.extBut _ _ D.i1z.symm z1))
    have ne:e≠z:=λq=>by subst q;rw [z4] at hoe;cases hoe;simp at hce
    exact wpAny_setField_rec z4 (by simp) λg5 _ s5=>stop g5 e (λc o q1 q2 q3 q4 q=>s5.extBut _ _ q1 (s4 _ _ q4 (s3.extBut _ _ q2 (s2.extBut _ _ q3 (s1.extBut _ _ q1 q))))) ⟨oe,s5.extBut _ _ ne hoe,hce⟩
end
open PySem PySem.Spec PyProof.Rows
noncomputable abbrev GW (h:Heap) (a:Addr):Heap:=h.push { cls:=.type "tuple_iterator",data:=.fields #[.ref a,.int 0 0] }
noncomputable abbrev GX (h:Heap) (a b:Addr):Heap:=(GW h a).push { cls:=.type "list_iterator",data:=.fields #[.ref b,.int 0 0] }
noncomputable abbrev GY (h:Heap) (a b:Addr):Heap:=(GX h a b).push { cls:=.type "tuple",data:=.seq #[.ref h.objs.size,.ref (GW h a).objs.size] }
noncomputable abbrev GZ (h:Heap) (a b:Addr):Heap:=(GY h a b).push { cls:=.type "tuple",data:=.seq #[.none,.none] }
noncomputable abbrev Cf (h:Heap) (a b:Addr):Heap:=(GZ h a b).push { cls:=.type "zip",data:=.fields #[.none,.bool false,.bool false,.ref (GX h a b).objs.size,.ref (GY h a b).objs.size] }
theorem Gg (a b:Addr)(xs ys:Array Value):Meets (Builtin.«zip.__new__» ⟨[.type "zip",.ref a,.ref b],[]⟩) (λ_ R s=>IsTup s.heap a xs∧s.heap.IsList b ys∧R (.ok (.ret (.ref (GZ s.heap a b).objs.size))) { s with heap:=Cf s.heap a b }):=
 .of_wp λprog w A R s q=>by
  obtain⟨hp,g,d,tk,os⟩:=s
  obtain⟨q1,q2,q⟩:=q
  have hsub:=sub_zip
  have M1:IsTup (Shared.heap ⟨hp,g,d,tk,os⟩) a xs:=q1
  have M2:Heap.IsList (Shared.heap ⟨hp.push { cls:=.type "tuple_iterator",data:=.fields #[.ref a,.int 0 0] },g,d,tk,os⟩) b ys:=Heap.IsList.push q2 _
  wp_walk using iter_tuple M1,wpAny_pyIter_list M2
  exact⟨_,rfl,q⟩
section
variable {prog:Program}{w:World}{A:Around}{E:Value→Shared→Prop}{s:Shared}
theorem Ie {a b:Addr}{xs ys:Array Value}{Q:Value→Shared→Prop}(q1:IsTup s.heap a xs)(q2:s.heap.IsList b ys)
    (go:∀g,IsZip g (s.heap.objs.size+4) (s.heap.objs.size+2) (s.heap.objs.size+3) .none→IsPair g (s.heap.objs.size+2) (.ref s.heap.objs.size) (.ref (s.heap.objs.size+1))→IsPair g (s.heap.objs.size+3) .none .none →
      IsTupIter g s.heap.objs.size a 0→g.IsListIter (s.heap.objs.size+1) b 0→(∀c o,s.heap.get? c=some o→g.get? c=some o)→Q (.ref (s.heap.objs.size+4)) { s with heap:=g }) :
    wpAny (model prog w) A (call (.type "zip") [.ref a,.ref b]) Q E s:=by
  refine callType_new F.called_zip (by decide) (F.typeCall_zip_2 _ _) (F.newCall_zip_2 _ _) (λobj=>F.args_object_init_3 obj _ _) F.entry_zip_new (Gg a b xs ys) ⟨q1,q2,?_⟩
  have n1:(GW s.heap a).objs.size=s.heap.objs.size+1:=Heap.size_push ..
  have n2:(GX s.heap a b).objs.size=s.heap.objs.size+2:=by rw [Heap.size_push,n1]
  have n3:(GY s.heap a b).objs.size=s.heap.objs.size+3:=by rw [Heap.size_push,n2]
  have n4:(GZ s.heap a b).objs.size=s.heap.objs.size+4:=by rw [Heap.size_push,n3]
  have e5:(Cf s.heap a b).get? (GZ s.heap a b).objs.size=some _:=Heap.get?_push_size _ rfl
  have e4:(Cf s.heap a b).get? (GY s.heap a b).objs.size=some _:=Heap.get?_push_of_some _ (Heap.get?_push_size _ rfl)
  have e3:(Cf s.heap a b).get? (GX s.heap a b).objs.size=some _:=Heap.get?_push_of_some _ (Heap.get?_push_of_some _ (Heap.get?_push_size _ rfl))
  have e2:(Cf s.heap a b).get? (GW s.heap a).objs.size=some _:=Heap.get?_push_of_some _ (Heap.get?_push_of_some _ (Heap.get?_push_of_some _ (Heap.get?_push_size _ rfl)))
  have e1:(Cf s.heap a b).get? s.heap.objs.size=some _:=Heap.get?_push_of_some _ (Heap.get?_push_of_some _ (Heap.get?_push_of_some _ (Heap.get?_push_of_some _ (Heap.get?_push_size _ rfl))))
  show _∧_
  rw [n2,n3,n4] at e5
  rw [n1,n2] at e3
  rw [n3] at e4
  rw [n1] at e2
  rw [n4]
  exact⟨⟨_,e5,rfl⟩,go _ e5 e3 e4 ⟨_,e1,rfl,rfl⟩ ⟨_,e2,rfl,rfl⟩ λc o q=>Heap.get?_push_of_some _ (Heap.get?_push_of_some _ (Heap.get?_push_of_some _ (Heap.get?_push_of_some _ (Heap.get?_push_of_some _ q))))⟩
end
noncomputable def vM (K:PySem.W.Frag)(a b:Addr):It:=
 ⟨λi H=>∃xs ys x y,dC K H a xs∧az K H b ys∧xs[i]?=some x∧ys[i]?=some y,λi H x H'=>∃y z t,(∀xs,dC K H a xs→xs[i]?=some y)∧(∀xs,az K H b xs→xs[i]?=some z)∧H t=none∧x = .ref t∧H'=upd H t (.tup [y,z]),λi H=>∃xs ys,dC K H a xs∧az K H b ys∧(xs.length≤i∨ys.length≤i)⟩
theorem mG {h:Heap}{l c:Addr}{xs:Array Value}(hl:IsTup h l xs)(hc:∃o,h.get? c=some o∧o.cls≠.type "tuple"):l≠c:=by
 obtain⟨o,ho,n⟩:=hc
 obtain⟨u,hu,cu,_⟩:=hl
 intro z
 rw [z,ho] at hu
 cases hu
 exact n cu
theorem EM {P:Program}{w:World}{K:PySem.W.Frag}{elts:List Expr}{x1}{tp:Pos}(a b:Addr)(n:Nat):Turn P w K (.Tuple elts x1 tp) (vM K a b) [n+4,n+2,n+3,n,n+1] (n+4) (λi h=>IsZip h (n+4) (n+2) (n+3) .none∧IsPair h (n+2) (.ref n) (.ref (n+1))∧(∃u v,IsPair h (n+3) u v)∧IsTupIter h n a i∧h.IsListIter (n+1) b i∧a≠n+3) where
 mem:=by simp
 obj:=λi h st c hc=>by
  obtain⟨h1,h2,⟨u,v,h3⟩,⟨o4,q4,c4,d4⟩,⟨o5,q5,c5,d5⟩,_⟩:=st
  simp only [List.mem_cons,List.not_mem_nil,or_false] at hc
  rcases hc with z|z|z|z|z
  ·subst z
   exact⟨_,h1,λv z=>by
    have z':Data.fields _=Data.cell v:=z
    cases z'⟩
  ·subst z
   exact⟨_,h2,λv z=>by
    have z':Data.seq _=Data.cell v:=z
    cases z'⟩
  ·subst z
   exact⟨_,h3,λv z=>by
    have z':Data.seq _=Data.cell v:=z
    cases z'⟩
  ·subst z
   exact⟨o4,q4,λv z=>by rw [d4] at z;cases z⟩
  ·subst z
   exact⟨o5,q5,λv z=>by rw [d5] at z;cases z⟩
 keep:=λi h h' st k=>by
  obtain⟨h1,h2,⟨u,v,h3⟩,⟨o4,q4,r4⟩,h5,nn⟩:=st
  exact⟨k _ (by simp) _ h1,k _ (by simp) _ h2,⟨u,v,k _ (by simp) _ h3⟩,⟨o4,k n (by simp) o4 q4,r4⟩,h5.at λo q=>k (n+1) (by simp) o q,nn⟩
 item:=by
  intro X hP hw hK hc i pins s σ H E I hf st hg
  subst hP hw hK
  obtain⟨xs,ys,x,y,hq1,hq2,hx,hy⟩:=hg
  obtain⟨its,rv,pl,hz⟩:=I.tuple hq1
  obtain⟨u,hu,ru⟩:=rv.get hx
  obtain⟨its2,rv2,pl2,hz2⟩:=I.list hq2
  obtain⟨u2,hu2,ru2⟩:=rv2.get hy
  obtain⟨h1,h2,⟨v1,v2,h3⟩,h4,h5,nn⟩:=st
  have c1:∃o,s.heap.get? (n+4)=some o∧o.cls≠.type "list":=⟨_,h1,by show Value.type "zip"≠Value.type "list";decide⟩
  have c3:∃o,s.heap.get? (n+3)=some o∧o.cls≠.type "list":=⟨_,h3,by show Value.type "tuple"≠Value.type "list";decide⟩
  have c4:∃o,s.heap.get? n=some o∧o.cls≠.type "list":=by obtain⟨o,q,c,_⟩:=h4;exact⟨o,q,by rw [c];decide⟩
  have c5:∃o,s.heap.get? (n+1)=some o∧o.cls≠.type "list":=by obtain⟨o,q,c,_⟩:=h5;exact⟨o,q,by rw [c];decide⟩
  have d1:∃o,s.heap.get? (n+4)=some o∧o.cls≠.type "tuple":=⟨_,h1,by show Value.type "zip"≠Value.type "tuple";decide⟩
  have d4:∃o,s.heap.get? n=some o∧o.cls≠.type "tuple":=by obtain⟨o,q,c,_⟩:=h4;exact⟨o,q,by rw [c];decide⟩
  have d5:∃o,s.heap.get? (n+1)=some o∧o.cls≠.type "tuple":=by obtain⟨o,q,c,_⟩:=h5;exact⟨o,q,by rw [c];decide⟩
  have D:ZipApart (n+4) (n+2) (n+3) n (n+1) a b:=⟨gr (by (try clear hc hu hu2 hx hy hz hz2 nn);omega),gr (by (try clear hc hu hu2 hx hy hz hz2 nn);omega),gr (by (try clear hc hu hu2 hx hy hz hz2 nn);omega),gr (by (try clear hc hu hu2 hx hy hz hz2 nn);omega),gr (by (try clear hc hu hu2 hx hy hz hz2 nn);omega),gr (by (try clear hc hu hu2 hx hy hz hz2 nn);omega),gr (by (try clear hc hu hu2 hx hy hz hz2 nn);omega),gr (by (try clear hc hu hu2 hx hy hz hz2 nn);omega),gr (by (try clear hc hu hu2 hx hy hz hz2 nn);omega),gr (by (try clear hc hu hu2 hx hy hz hz2 nn);omega),mG pl d1,nn,mG pl d4,mG pl d5,j0 pl2.isList c1,j0 pl2.isList c3,j0 pl2.isList c4,j0 pl2.isList c5⟩
  have hel:n+4<s.heap.objs.size:=Heap.lt_size h1
  refine EV D h1 h2 h3 h4 h5 pl pl2.isList (x:=u) (y:=u2) (by simpa using hu) (by simpa using hu2) λg1 a1 a2 a3 a4 a5 a7=>⟨_,rfl,?_⟩
  refine wpAny_letOwnedTupleGo_zip a1 λg2 b1 hs2=>?_
  have hs2':Heap.SameBut (n+4) g1 g2:=hs2
  have hnone:H s.heap.objs.size=none:=I.bb.fresh (Nat.le_refl _)
  have kk:∀c o,c∉[n+4,n+2,n+3,n,n+1]→s.heap.get? c=some o→g2.get? c=some o:=λc o hc q=>by
   simp only [List.mem_cons,List.not_mem_nil,or_false,not_or] at hc
   exact (hs2'.2 c hc.1).trans (a7 c o hc.1 hc.2.2.1 hc.2.2.2.1 hc.2.2.2.2 q)
  refine⟨.ref s.heap.objs.size,upd H s.heap.objs.size (.tup [x,y]),I.HZ (t':=s.toks) kk rfl ?_ hf,rfl,⟨x,y,_,λzs hz=>by rw [I.EJ hz hq1];exact hx,λzs hz=>by rw [I.pR hz hq2];exact hy,hnone,rfl,rfl⟩,⟨b1,?_,⟨_,_,(hs2'.2 _ (gr (by (try clear hc hel hnone hu hu2 hx hy hz hz2 nn);omega))).trans a2⟩,a3.extBut hs2'.extBut (gr (by (try clear hc hel hnone hu hu2 hx hy hz hz2 nn);omega)),a4.extBut hs2'.extBut (gr (by (try clear hc hel hnone hu hu2 hx hy hz hz2 nn);omega)),nn⟩,λc hc=>?_⟩
  ·exact⟨by show 2≤sizeLine;decide,[u,u2],.cons ru (.cons ru2 .nil),⟨_,(hs2'.2 _ (gr (by (try clear hc hnone hu hu2 hx hy hz hz2 nn);omega))).trans a5,rfl,_,rfl⟩⟩
  ·exact (hs2'.2 _ (gr (by (try clear hc hel hnone hu hu2 hx hy hz hz2 nn);omega))).trans (a7 _ _ (gr (by (try clear hc hel hnone hu hu2 hx hy hz hz2 nn);omega)) (gr (by (try clear hc hel hnone hu hu2 hx hy hz hz2 nn);omega)) (gr (by (try clear hc hel hnone hu hu2 hx hy hz hz2 nn);omega)) (gr (by (try clear hc hel hnone hu hu2 hx hy hz hz2 nn);omega)) h2)
  ·have hb0:H c=none:=(hf c hc).1
   have hbl:c<s.heap.objs.size:=by
    simp only [List.mem_cons,List.not_mem_nil,or_false] at hc
    have hel':(n:Nat)+4<s.heap.objs.size:=hel
    rcases hc with z|z|z|z|z<;>rw [z]<;>show (_:Nat)<s.heap.objs.size<;>((try clear hb0 hc hnone hu hu2 hx hy hz hz2 nn z);omega)
   rw [aI (Nat.ne_of_lt hbl)]
   exact hb0
 done:=by
  intro X hP hw hK hc i pins s σ H E I hf st hg
  subst hP hw hK
  obtain⟨xs,ys,hq1,hq2,hx⟩:=hg
  obtain⟨its,rv,pl,hz⟩:=I.tuple hq1
  obtain⟨its2,rv2,pl2,hz2⟩:=I.list hq2
  obtain⟨h1,h2,⟨v1,v2,h3⟩,h4,h5,nn⟩:=st
  have l1:=rv.length
  have l2:=rv2.length
  have c1:∃o,s.heap.get? (n+4)=some o∧o.cls≠.type "list":=⟨_,h1,by show Value.type "zip"≠Value.type "list";decide⟩
  have c3:∃o,s.heap.get? (n+3)=some o∧o.cls≠.type "list":=⟨_,h3,by show Value.type "tuple"≠Value.type "list";decide⟩
  have c4:∃o,s.heap.get? n=some o∧o.cls≠.type "list":=by obtain⟨o,q,c,_⟩:=h4;exact⟨o,q,by rw [c];decide⟩
  have c5:∃o,s.heap.get? (n+1)=some o∧o.cls≠.type "list":=by obtain⟨o,q,c,_⟩:=h5;exact⟨o,q,by rw [c];decide⟩
  have d1:∃o,s.heap.get? (n+4)=some o∧o.cls≠.type "tuple":=⟨_,h1,by show Value.type "zip"≠Value.type "tuple";decide⟩
  have d4:∃o,s.heap.get? n=some o∧o.cls≠.type "tuple":=by obtain⟨o,q,c,_⟩:=h4;exact⟨o,q,by rw [c];decide⟩
  have d5:∃o,s.heap.get? (n+1)=some o∧o.cls≠.type "tuple":=by obtain⟨o,q,c,_⟩:=h5;exact⟨o,q,by rw [c];decide⟩
  have D:ZipApart (n+4) (n+2) (n+3) n (n+1) a b:=⟨gr (by (try clear hc hx hz hz2 l1 l2 nn);omega),gr (by (try clear hc hx hz hz2 l1 l2 nn);omega),gr (by (try clear hc hx hz hz2 l1 l2 nn);omega),gr (by (try clear hc hx hz hz2 l1 l2 nn);omega),gr (by (try clear hc hx hz hz2 l1 l2 nn);omega),gr (by (try clear hc hx hz hz2 l1 l2 nn);omega),gr (by (try clear hc hx hz hz2 l1 l2 nn);omega),gr (by (try clear hc hx hz hz2 l1 l2 nn);omega),gr (by (try clear hc hx hz hz2 l1 l2 nn);omega),gr (by (try clear hc hx hz hz2 l1 l2 nn);omega),mG pl d1,nn,mG pl d4,mG pl d5,j0 pl2.isList c1,j0 pl2.isList c3,j0 pl2.isList c4,j0 pl2.isList c5⟩
  refine Gh (I.ok.hd hc) D h1 h2 h3 h4 h5 pl pl2.isList ?_ λg1 a7=>⟨rfl,I.Ia (t':=s.toks) (ch:=[n+4,n+2,n+3,n,n+1]) (λc o hc q=>?_) hf⟩
  ·rcases hx with z|z
   ·exact .inl (by simp;((try clear hc hz hz2 l2 nn);omega))
   ·exact .inr (by simp;((try clear hc hz hz2 l1 nn);omega))
  ·simp only [List.mem_cons,List.not_mem_nil,or_false,not_or] at hc
   exact a7 c o hc.1 hc.2.2.1 hc.2.2.2.1 hc.2.2.2.2 q
 self:=λ_ _ _ _ _ ⟨hz,_⟩ h=>wpAny_pyIter_zip hz h
section
variable {X:Cx}{e e2:Expr}{te te2:TE}{p pos:Pos}
def yd (K:PySem.W.Frag)(tl tl2:TE):TI:=λσ H R=>tl σ H λx H1=>tl2 σ H1 λy H2=>∃a b,x = .ref a∧y = .ref b∧(∃xs,dC K H2 a xs)∧(∃ys,az K H2 b ys)∧R (vM K a b) H2
theorem HB {elts:List Expr}{x1}{tp:Pos}(hg:Gl X "zip")(hm:X.mg "zip"=none)(he:PE X e te)(he2:PE X e2 te2)(hs:starEach [e,e2] X.env=(false,eval e X.env)::starEach [e2] X.env:=by rfl)(hs2:starEach [e2] X.env=(false,eval e2 X.env)::starEach [] X.env:=by rfl):PI X (.Tuple elts x1 tp) (.Call (.Name "zip" p) [e,e2] [] pos) (yd X.K te te2):=by
 intro pins s σ H R I h
 refine wpAny_Call_Name_kw (kq I hg hm PyProof.Rows.boot_zip ?_ (by decide) (by decide))
 refine PyProof.Rows.callWith_type1 (bU (aa he (aa he2 ae hs2) hs pos pins s σ H (λvs H2=>∃a b,vs=[.ref a,.ref b]∧(∃xs,dC X.K H2 a xs)∧(∃ys,az X.K H2 b ys)∧R (vM X.K a b) H2) I ?_) λus s1 ⟨vs,H1,I1,r1,q1⟩=>?_) hs (by rw [hs2];rfl)
 ·show te σ H λx H1=>te2 σ H1 λy H2=>_
  have e3:(λx H1=>te2 σ H1 λy H2=>pX σ H2 λxs H3=>(λvs H2=>∃a b,vs=[V.ref a,V.ref b]∧(∃xs,dC X.K H2 a xs)∧(∃ys,az X.K H2 b ys)∧R (vM X.K a b) H2) (x::y::xs) H3)=λx H1=>te2 σ H1 λy H2=>∃a b,x=V.ref a∧y=V.ref b∧(∃xs,dC X.K H2 a xs)∧(∃ys,az X.K H2 b ys)∧R (vM X.K a b) H2:=by
   funext x H1
   congr 1
   funext y H2
   simp only [pX,List.cons.injEq,and_true,and_assoc]
  have:=h
  unfold yd at this
  rw [←e3] at this
  exact this
 ·obtain⟨a,b,rfl,⟨xs,hq⟩,⟨ys,hq2⟩,hR⟩:=q1
  obtain⟨u,u2,rfl,ru,ru2⟩:=vals2 r1
  cases ru
  cases ru2
  obtain⟨its,rv,pl,hz⟩:=I1.tuple hq
  obtain⟨its2,rv2,pl2,hz2⟩:=I1.list hq2
  refine Ie pl pl2.isList λh' a1 a2 a3 a4 a5 hk=>?_
  refine wpAny_pyIter_zip a1 ?_
  have la:a<s1.heap.objs.size:=pl.lt
  refine⟨s1.heap.objs.size+4,[s1.heap.objs.size+4,s1.heap.objs.size+2,s1.heap.objs.size+3,s1.heap.objs.size,s1.heap.objs.size+1],_,_,H1,rfl,I1.kept (t':=s1.toks) hk,EM a b _,⟨a1,a2,⟨_,_,a3⟩,a4,a5,λz=>by
   have la':@LT.lt Nat instLTNat a s1.heap.objs.size:=la
   have z':@Eq Nat a (s1.heap.objs.size+3):=z
   omega⟩,λc hc=>?_,hR⟩
  have:s1.heap.objs.size≤c:=by
   simp only [List.mem_cons,List.not_mem_nil,or_false] at hc
   rcases hc with z|z|z|z|z<;>rw [z]<;>show s1.heap.objs.size≤(_:Nat)<;>omega
  exact I1.pH this (I1.bb.fresh this)
end
open PySem PySem.Spec PyProof.Rows
def ej (K:PySem.W.Frag)(a:Addr)(xs:List V):Prop:=∃(o:Obj) (its:Array Value) (n:Nat),K.lookup a=some o∧o.cls = .type "tuple"∧o.data = .seq its n∧its.size≤sizeLine∧Vals xs its.toList
theorem ej.sq {K:PySem.W.Frag}{a:Addr}{xs:List V}(h:ej K a xs)(H:Hp):dC K H a xs:=.inr h
structure Met (P:Program)(w:World)(K:PySem.W.Frag)(mg:Str→Option Value)(base:Heap)(CX:jy)(C:Addr)(m:Str)(k:Nat)(ps:List Str)(sp:Sp):Prop where
 ex:∃(f:Addr) (fd:FuncData),bc P w K mg base CX k f fd ps sp∧Binds K fd ps []∧Meth K C m f
structure Ik (P:Program)(w:World)(K:PySem.W.Frag)(mg:Str→Option Value)(base:Heap)(C:Addr)(k:Nat)(ps:List Str)(sp:Sp):Prop where
 ex:∃(f:Addr) (fd:FuncData),bc P w K mg base cY k f fd ps sp∧Binds K fd ps []∧Mk K C f
def Ac (C:Addr)(m:Str)(sp:Sp)(EE:St→XK)(ta:TE)(t:TA):TE:=λσ H Q=>ta σ H λx H1=>∃a dx fs,x = .ref a∧H1 a=some (.ins C dx fs)∧fs.lookup m=none∧t σ H1 λvs H2=>sp (x::vs) H2 Q (EE σ)
section
variable {X:Cx}{CX:jy}{C:Addr}{x m:Str}{j k:Nat}{ps:List Str}{sp:Sp}{p pos apos:Pos}{o e:Expr}{es:List Expr}{ta:TE}{t:TA}{E:XK}{EE:St→XK}
theorem nq {pl:Sem Bool}(hx:Passes CX X E)(c:oB X.K C)(M:Met X.prog X.w X.K X.mg X.base CX C m j ps sp)(hr:en k X.A)(ho:PE X o ta)(ha:PA X (e::es) t)(hjk:j≤k:=by decide)
    (hst:starEach (e::es) X.env=(false,eval e X.env)::starEach es X.env:=by rfl) (hpl:(backTo pos (starEach es X.env)).any (·.1)=false:=by rfl)
    (ht:eval (.Call (.Attribute o m apos) (e::es) [] pos) X.env=(do
      let ov ←eval o X.env
      standAt apos.atName
      let (f,first) ←holding [ov] (getMethod ov m pl)
      callWith pos f first (backTo pos (starEach (e::es) X.env)) (backToKw pos (keywordEach [] X.env))):=by rfl) :
    PE X (.Call (.Attribute o m apos) (e::es) [] pos) (yg C m sp [] E ta t):=by
  obtain⟨f,fd,F,b,hm⟩:=M.ex
  exact Hz ho c hm F (hr.mono hjk) b .nil hx ha hst hpl ht
theorem Hy {pl:Sem Bool}(hx:Cj X EE)(c:oB X.K C)(M:Met X.prog X.w X.K X.mg X.base (eh X.prog X.w) C m j ps sp)(hr:en k X.A)(ho:PE X o ta)(ha:PA X (e::es) t)(hjk:j≤k:=by decide)
    (hst:starEach (e::es) X.env=(false,eval e X.env)::starEach es X.env:=by rfl) (hpl:(backTo pos (starEach es X.env)).any (·.1)=false:=by rfl)
    (ht:eval (.Call (.Attribute o m apos) (e::es) [] pos) X.env=(do
      let ov ←eval o X.env
      standAt apos.atName
      let (f,first) ←holding [ov] (getMethod ov m pl)
      callWith pos f first (backTo pos (starEach (e::es) X.env)) (backToKw pos (keywordEach [] X.env))):=by rfl) :
    PE X (.Call (.Attribute o m apos) (e::es) [] pos) (Ac C m sp EE ta t):=by
  obtain⟨f,fd,F,hb,hm⟩:=M.ex
  intro pins s σ H Q I h
  refine PySem.W.methodCall_KW (pl:=pl) (bU (ho pins s σ H _ I h) λu s1 ⟨x,H1,I1,rx,a,dx,fs,ex,ea,l,q⟩=>?_) ht
  subst ex
  obtain rfl:u=Value.ref a:=rx
  refine u6 I1 ea c hm l ?_
  refine PySem.W.callWith_K (first:=[.ref a]) (h₀:=X.base) I.ok.mod.vg hm.kp (bU (ha pos pins s1 σ H1 _ I1 q) λus s2 ⟨vs,H2,I2,r,q2⟩=>⟨I2.fA,?_⟩) hst hpl
  have r2:Vals (V.ref a::vs) (Value.ref a::us):=.cons rfl r
  have hl:(Value.ref a::us).length=ps.length:=by rw [←r2.length];exact F.len _ _ _ _ q2
  have hbs:BindsTo s2 fd ⟨Value.ref a::us,[]⟩ (ps.zip (Value.ref a::us)):=by
    have:=hb s2 (Value.ref a::us) I2.fA (by rw [List.append_nil];exact hl)
    rwa [List.append_nil] at this
  refine wpAny_call (codeAny_mono (F.run X.A X.stack s2 H2 ⟨Value.ref a::us,[]⟩ (Value.ref a::us) (V.ref a::vs) Q (EE σ) (hr.mono hjk) I2.CA hbs r2 q2) λr s' hq=>?_)
  cases r with
  | error e=>exact hx pins σ H2 s2 e s' I2 hq
  | ok fl=>
    cases fl with
    | ret u=>exact I2.after hq
    | next=>exact False.elim hq
    | brk=>exact False.elim hq
    | cont=>exact False.elim hq
theorem JY (D:Ik X.prog X.w X.K X.mg X.base C j ps sp)(hr:en k X.A)(hg:Gl X x)(hm:X.mg x=some (.ref C))(ha:PA X (e::es) t)(hjk:j+1≤k:=by decide)(hdb:(x == ("__debug__":Str))=false:=by decide)
    (he:starEach (e::es) X.env=(false,eval e X.env)::starEach es X.env:=by rfl) (hpl:(backTo pos (starEach es X.env)).any (·.1)=false:=by rfl):PE X (.Call (.Name x p) (e::es) [] pos) (yf C sp [] E0 t):=by
  obtain⟨f,fd,F,b,M⟩:=D.ex
  exact Hx M F (hr.mono hjk) hg hm b .nil vo ha hdb he hpl
theorem gq {P:Program}{w:World}{K:PySem.W.Frag}{mg:Str→Option Value}{base:Heap}{CX:jy}{y:Str}{g:Addr}{n:Nat}(hm:mg y=some (.ref g))
    (D:∃(f:Addr) (fd:FuncData),bc P w K mg base CX n f fd ps sp∧Binds K fd ps []∧PySem.W.keepIn K (.ref f)=true∧mg y=some (.ref f)):mr P w K mg base CX n (λh s=>h=g∧s=sp):=⟨λh s ⟨e1,e2⟩=>by
  subst e1 e2
  obtain⟨f,fd,F,b,kp,m⟩:=D
  rw [hm] at m
  cases m
  exact⟨fd,ps,F,b,kp⟩⟩
end
open PySem PySem.Spec PyProof.Rows
theorem Ha {K:PySem.W.Frag}{a b:Addr}{caps:List Nat}{tt:TT}{te:TE}{σ:St}{H:Hp}{Q:VK}(xs zs:List V)(Pv:Nat→List V→Hp→Prop)(hn:xs.length≤sizeLine)(hnm:xs.length=zs.length)(h0:Pv 0 [] H)(hl:∀i ys H,Pv i ys H→dC K H a xs∧az K H b zs)
    (hs:∀i (x y:V) ys H H',xs[i]?=some x→zs[i]?=some y→Pv i ys H→aL H H'→tt (some x::some y::cg caps σ) H' λt H4=>if t=true then te (some x::some y::cg caps σ) H4 λv H5=>Pv (i+1) (ys++[v]) H5 else Pv (i+1) ys H4)
    (hd:∀ys H,Pv xs.length ys H→∀p,H p=none→Q (.ref p) (upd H p (.lst ys))):oC (vM K a b) caps (pK K 2 (ic (fk 0) (ic (fk 1) pJ))) tt te σ H Q:=by
  refine⟨xs.length,λi ys H=>i≤xs.length∧Pv i ys H,hn,⟨Nat.zero_le _,h0⟩,?_⟩
  rintro i ys H2 ⟨hi,p⟩
  obtain⟨hS,hS2⟩:=hl i ys H2 p
  by_cases hlt:i<xs.length
  · have hv:xs[i]?=some xs[i]:=List.getElem?_eq_getElem hlt
    have hlt2:i<zs.length:=by omega
    have hv2:zs[i]?=some zs[i]:=List.getElem?_eq_getElem hlt2
    refine .inr ⟨⟨_,_,_,_,hS,hS2,hv,hv2⟩,hlt,?_⟩
    rintro y H3 ⟨y,z,t,hy,hz,ht,rfl,rfl⟩ o1 o2
    have hy:=hy _ hS
    rw [hv] at hy
    cases hy
    have hz:=hz _ hS2
    rw [hv2] at hz
    cases hz
    refine⟨t,_,rfl,dC.of aS,rfl,_,_,rfl,_,_,rfl,rfl,⟨_,_,rfl⟩,?_⟩
    have key:=hs i _ _ ys H2 _ hv hv2 p (ly ht (.tup [xs[i],zs[i]]))
    have e2:(λ(t:Bool) (H4:Hp)=>if t=true then te (some xs[i]::some zs[i]::cg caps σ) H4 λv H5=>Pv (i+1) (ys++[v]) H5 else Pv (i+1) ys H4)=λt H4=>if t=true then te (some xs[i]::some zs[i]::cg caps σ) H4 λv H5=>i+1≤xs.length∧Pv (i+1) (ys++[v]) H5 else i+1≤xs.length∧Pv (i+1) ys H4:=by
      funext t H4
      have z:i+1≤xs.length:=hlt
      simp only [z,true_and]
    rw [e2] at key
    exact key
  · have e:i=xs.length:=by omega
    subst e
    exact .inl ⟨⟨_,_,hS,hS2,.inl (Nat.le_refl _)⟩,hd ys H2 p⟩
section
variable {X:Cx}{tg:Expr}
end
theorem jQ {P:Program}{w:World}{K:PySem.W.Frag}{mg:Str→Option Value}{base:Heap}{CX:jy}{n m:Nat}{S T:Addr→Sp→Prop}(h:mr P w K mg base CX n S)(h':mr P w K mg base CX m T):mr P w K mg base CX (max n m) (λg s=>S g s∨T g s):=⟨λg s z=>by
 rcases z with z|z
 ·obtain⟨fd,ps,F,b,kp⟩:=h.ok g s z
  exact⟨fd,ps,F.mono (Nat.le_max_left ..),b,kp⟩
 ·obtain⟨fd,ps,F,b,kp⟩:=h'.ok g s z
  exact⟨fd,ps,F.mono (Nat.le_max_right ..),b,kp⟩⟩
open PySem PySem.Spec PyProof.Rows
section
variable {X:Cx}{a b:Expr}{ta tb:TE}{z:Str}
def FY (z:Str)(ta tb:TE):TE:=λσ H Q=>ta σ H λx H1=>∃i:Int,x = .int i∧i.natAbs.log2<1920∧(Str.ofString (toString i)++z).length≤sizeLine∧tb σ H1 λy H2=>∃j:Int,y = .int j∧j.natAbs.log2<1920∧(Str.ofString (toString i)++z++Str.ofString (toString j)).length≤sizeLine∧Q (.str (Str.ofString (toString i)++z++Str.ofString (toString j))) H2
theorem empty_app (a:Str):Str.empty++a=a:=congrArg Str.mk Array.empty_append
theorem zD {k:Nat}{p1 p2 p3 p4:Pos}(ha:PE X a ta)(hb:PE X b tb):PE X (.JoinedStr [.FormattedValue a (-1) none p1,.Constant (.str z) k p2,.FormattedValue b (-1) none p3] p4) (FY z ta tb):=by
 intro pins s σ H Q I h
 refine wpAny_JoinedStr (wpAny_FormattedValue_plain (bU (ha pins s σ H _ I h) λu s1 ⟨x,H1,I1,r1,i,e,hi,hz,q1⟩=>?_))
 subst e
 obtain⟨t,rfl⟩:=r1
 refine wpAny_formatField_int hi ⟨_,_,rfl,?_,?_⟩
 ·rw [empty_app]
  exact int_text_fits hi
 refine Calls.Constant_str ?_
 have I2:Inv X pins σ H1 { s1 with toks:=s1.toks+1+1 }:=I1.tok _
 have I3:=I2.tok (s1.toks+1+1+1)
 have key:=hb pins { s1 with toks:=s1.toks+1+1+1 } σ H1 _ I3 q1
 refine⟨_,_,rfl,?_,wpAny_FormattedValue_plain (bU key λu s2 ⟨y,H2,I4,r2,j,e,hj,hl,q2⟩=>?_)⟩
 ·rw [empty_app]
  exact hz
 subst e
 obtain⟨t2,rfl⟩:=r2
 refine wpAny_formatField_int hj ⟨_,_,rfl,?_,?_,?_⟩
 ·rw [empty_app]
  exact hl
 ·rw [empty_app]
  exact hl
 ·rw [empty_app]
  exact⟨.str (Str.ofString (toString i)++z++Str.ofString (toString j)),H2,(I4.tok _).tok _,⟨_,rfl⟩,q2⟩
end
end L2
namespace Tx
open PySem PySem.Spec PyProof.Rows Builtin.Str
theorem ja (a b:Str):(a++b).length=a.length+b.length:=Array.size_append
end Tx
namespace L2
open PySem PySem.Spec PyProof.Rows
section
variable {X:Cx}
end
open PySem PySem.Spec PyProof.Rows
section
variable {M:Model}{A:Around}{EX:Value→Shared→Prop}{s:Shared}{env:Env}
end
section
variable {X:Cx}
end
open PySem PySem.Spec PyProof.Rows
section
open PySem.Calls PySem.W
variable {prog:Program}{w:World}{A:Around}{E:Value→Shared→Prop}{s:Shared}
end
section
variable {X:Cx}
theorem Jl {op:Value→Value→Sem Value}{r1 r2:R2}(h1:gC X op r1)(h2:gC X op r2):gC X op (λx y H Q=>r1 x y H Q∨r2 x y H Q):=by
 intro pins s σ H x y v u Q I rx ry h
 rcases h with h|h
 ·exact h1 pins s σ H x y v u Q I rx ry h
 ·exact h2 pins s σ H x y v u Q I rx ry h
end
open PySem PySem.Spec PyProof.Rows
section
variable {X:Cx}{C:Addr}{x:Str}{j k:Nat}{ps:List Str}{sp:Sp}{p pos:Pos}{e:Expr}{es:List Expr}{t:TA}{EE:St→XK}
end
section
variable {X:Cx}
end
open PySem PySem.Spec PyProof.Rows
section
variable {X:Cx}
end
theorem ia.strs {K:PySem.W.Frag}{H:Hp}:∀bs:List Str,ia K H (bs.map V.str) (bs.map PyData.str)
 | []=>.nil
 | b::r=>.cons (.str b) (ia.strs r)
theorem tM:∀bs:List Str,(∀b∈bs,PyData.strOk b=true)→PyData.canLayAll0 (bs.map PyData.str)=true
 | [],_=>by simp [PyData.canLayAll0]
 | b::r,h=>by simp [PyData.canLayAll0,PyData.canLay0,h b (by simp),tM r λc hc=>h c (by simp [hc])]
theorem uZ:∀bs:List Str,PyData.depthAll (bs.map PyData.str)=0
 | []=>by simp [PyData.depthAll]
 | b::r=>by simp [PyData.depthAll,PyData.depth,uZ r]
end L2
namespace K83
open PySem L2
set_option maxHeartbeats 1000000
section
def top (i:Nat):Stmt:=PySem.Challenge.pw_deeprests_k83_desk_answers.main.body.getD i (.Pass ⟨0,0,0,0⟩)
def inner (s:Stmt)(j:Nat):Stmt:=match s with | .ClassDef _ _ _ body _ _ _ _ _ _ _=>body.getD j (.Pass ⟨0,0,0,0⟩) | _=>.Pass ⟨0,0,0,0⟩
noncomputable def dA:List (Str×Tok×Value):=[("poly",803,.ref 420),("times",806,.ref 421),("seen",810,.ref 422),("slope",815,.ref 423),("drop",818,.ref 424),("names",820,.ref 425),("show",821,.ref 426),("solve",823,.ref 427),("count",826,.ref 428),("single",829,.ref 429),("root",832,.ref 430),("roots",836,.ref 431),("border",839,.ref 432),("small",841,.ref 433),("parts",845,.ref 434)]
theorem xX:atK dA "poly"=some (.ref 420):=by decide +kernel
theorem wF:atK dA "times"=some (.ref 421):=by decide +kernel
theorem xZ:atK dA "seen"=some (.ref 422):=by decide +kernel
theorem wB:atK dA "slope"=some (.ref 423):=by decide +kernel
theorem xW:atK dA "drop"=some (.ref 424):=by decide +kernel
theorem x6:atK dA "show"=some (.ref 426):=by decide +kernel
theorem wD:atK dA "solve"=some (.ref 427):=by decide +kernel
theorem wz:atK dA "count"=some (.ref 428):=by decide +kernel
theorem vJ:atK dA "single"=some (.ref 429):=by decide +kernel
theorem xY:atK dA "root"=some (.ref 430):=by decide +kernel
theorem wA:atK dA "roots"=some (.ref 431):=by decide +kernel
theorem vI:atK dA "border"=some (.ref 432):=by decide +kernel
theorem wC:atK dA "small"=some (.ref 433):=by decide +kernel
noncomputable def fq:List (Str×Tok×Value):=[("poly",997,.ref 469),("times",998,.ref 476),("seen",999,.ref 483),("slope",1000,.ref 490)]
theorem Bq:atK fq "poly"=some (.ref 469):=by decide +kernel
theorem AI:atK fq "times"=some (.ref 476):=by decide +kernel
theorem Bs:atK fq "seen"=some (.ref 483):=by decide +kernel
theorem AF:atK fq "slope"=some (.ref 490):=by decide +kernel
theorem Bp:atK fq "drop"=none:=by decide +kernel
theorem Bt:atK fq "show"=none:=by decide +kernel
theorem AH:atK fq "solve"=none:=by decide +kernel
theorem AD:atK fq "count"=none:=by decide +kernel
theorem xT:atK fq "single"=none:=by decide +kernel
theorem Br:atK fq "root"=none:=by decide +kernel
theorem AE:atK fq "roots"=none:=by decide +kernel
theorem xS:atK fq "border"=none:=by decide +kernel
theorem AG:atK fq "small"=none:=by decide +kernel
noncomputable def ir:List (Str×Tok×Value):=[("show",1006,.ref 497),("solve",1007,.ref 502),("count",1008,.ref 509),("single",1009,.ref 516),("root",1010,.ref 523),("roots",1011,.ref 528),("border",1012,.ref 533),("small",1013,.ref 540),("parts",1014,.ref 545)]
theorem Bw:atK ir "show"=some (.ref 497):=by decide +kernel
theorem AM:atK ir "solve"=some (.ref 502):=by decide +kernel
theorem AJ:atK ir "count"=some (.ref 509):=by decide +kernel
theorem xV:atK ir "single"=some (.ref 516):=by decide +kernel
theorem Bv:atK ir "root"=some (.ref 523):=by decide +kernel
theorem AK:atK ir "roots"=some (.ref 528):=by decide +kernel
theorem xU:atK ir "border"=some (.ref 533):=by decide +kernel
theorem AL:atK ir "small"=some (.ref 540):=by decide +kernel
theorem Bu:atK ir "drop"=none:=by decide +kernel
abbrev jq:Stmt:=top 14
theorem uI:aK ["thing","divisor"] ["thing"] (aj jq):=⟨rfl,rfl,rfl,by decide +kernel,rfl,by decide +kernel,by decide +kernel⟩
abbrev jo:Stmt:=top 15
theorem uH:aK ["p","x","depth","left"] ["p","x"] (aj jo):=⟨rfl,rfl,rfl,by decide +kernel,rfl,by decide +kernel,by decide +kernel⟩
abbrev jr:Stmt:=top 16
theorem uJ:aK ["p","e","power","turn"] ["p","e"] (aj jr):=⟨rfl,rfl,rfl,by decide +kernel,rfl,by decide +kernel,by decide +kernel⟩
abbrev eG:Stmt:=top 17
theorem lM:aK ["p","x","fitting"] ["p","x"] (aj eG):=⟨rfl,rfl,rfl,by decide +kernel,rfl,by decide +kernel,by decide +kernel⟩
abbrev gP:Stmt:=top 18
theorem qK:aK ["p","e","x","power","y","reached"] ["p","e","x"] (aj gP):=⟨rfl,rfl,rfl,by decide +kernel,rfl,by decide +kernel,by decide +kernel⟩
abbrev j5:Stmt:=top 21
theorem wH:aK ["p","x","e"] ["p","x","e"] (aj j5):=⟨rfl,rfl,rfl,by decide +kernel,rfl,by decide +kernel,by decide +kernel⟩
abbrev gU:Stmt:=top 23
theorem qP:aK ["side","ahead"] ["side","ahead"] (aj gU):=⟨rfl,rfl,rfl,by decide +kernel,rfl,by decide +kernel,by decide +kernel⟩
abbrev jm:Stmt:=top 24
theorem uF:aK ["sides","side","whole","ahead"] ["sides","side"] (aj jm):=⟨rfl,rfl,rfl,by decide +kernel,rfl,by decide +kernel,by decide +kernel⟩
abbrev iz:Stmt:=top 25
theorem tm:aK ["p","f","marks","sides","last","mark"] ["p","f"] (aj iz):=⟨rfl,rfl,rfl,by decide +kernel,rfl,by decide +kernel,by decide +kernel⟩
abbrev eV:Stmt:=top 27
theorem mj:aK ["power","a","m","ahead","row","times","following"] ["power","a","m"] (aj eV):=⟨rfl,rfl,rfl,by decide +kernel,rfl,by decide +kernel,by decide +kernel⟩
abbrev fj:Stmt:=top 28
theorem mQ:aK ["p","one","m","power","row"] ["p","one","m"] (aj fj):=⟨rfl,rfl,rfl,by decide +kernel,rfl,by decide +kernel,by decide +kernel⟩
abbrev jx:Stmt:=top 30
theorem uO:aK ["f","x","worth","number"] ["f","x"] (aj jx):=⟨rfl,rfl,rfl,by decide +kernel,rfl,by decide +kernel,by decide +kernel⟩
abbrev iA:Stmt:=top 31
theorem tq:aK ["f","degree","place","number"] ["f"] (aj iA):=⟨rfl,rfl,rfl,by decide +kernel,rfl,by decide +kernel,by decide +kernel⟩
abbrev fQ:Stmt:=top 32
theorem oG:aK ["f","g","product","place","number","other_place","other_number"] ["f","g"] (aj fQ):=⟨rfl,rfl,rfl,by decide +kernel,rfl,by decide +kernel,by decide +kernel⟩
abbrev jt:Stmt:=top 33
theorem uK:aK ["f"] ["f"] (aj jt):=⟨rfl,rfl,rfl,by decide +kernel,rfl,by decide +kernel,by decide +kernel⟩
abbrev iF:Stmt:=top 34
theorem tF:aK ["p","f","a","e","place_seen","seen","number"] ["p","f","a","e"] (aj iF):=⟨rfl,rfl,rfl,by decide +kernel,rfl,by decide +kernel,by decide +kernel⟩
abbrev gO:Stmt:=top 35
theorem qJ:aK ["p","f","content","left"] ["p","f"] (aj gO):=⟨rfl,rfl,rfl,by decide +kernel,rfl,by decide +kernel,by decide +kernel⟩
abbrev eW:Stmt:=top 36
theorem ml:aK ["p","f","power"] ["p","f"] (aj eW):=⟨rfl,rfl,rfl,by decide +kernel,rfl,by decide +kernel,by decide +kernel⟩
abbrev fh:Stmt:=top 37
theorem mP:aK ["p","f","small"] ["p","f"] (aj fh):=⟨rfl,rfl,rfl,by decide +kernel,rfl,by decide +kernel,by decide +kernel⟩
abbrev fS:Stmt:=top 47
theorem oI:aK ["p","f","a","rise","d"] ["p","f","a"] (aj fS):=⟨rfl,rfl,rfl,by decide +kernel,rfl,by decide +kernel,by decide +kernel⟩
abbrev j6:Stmt:=top 48
theorem wI:aK ["p","f","a","N","d"] ["p","f","a","N"] (aj j6):=⟨rfl,rfl,rfl,by decide +kernel,rfl,by decide +kernel,by decide +kernel⟩
abbrev jn:Stmt:=top 49
theorem uG:aK ["p","f","a","d","N","power","worth_power","root","inverse","turn","t"] ["p","f","a","d","N"] (aj jn):=⟨rfl,rfl,rfl,by decide +kernel,rfl,by decide +kernel,by decide +kernel⟩
abbrev fR:Stmt:=top 50
theorem oH:aK ["p","a","e","seen","N","freed","slope","power","roots","r","root"] ["p","a","e","seen","N"] (aj fR):=⟨rfl,rfl,rfl,by decide +kernel,rfl,by decide +kernel,by decide +kernel⟩
abbrev fC:Stmt:=top 51
theorem nJ:aK ["p","f","N"] ["p","f","N"] (aj fC):=⟨rfl,rfl,rfl,by decide +kernel,rfl,by decide +kernel,by decide +kernel⟩
abbrev dP:Stmt:=top 53
theorem jX:aK ["p","f","N","power"] ["p","f","N"] (aj dP):=⟨rfl,rfl,rfl,by decide +kernel,rfl,by decide +kernel,by decide +kernel⟩
abbrev dH:Stmt:=top 54
theorem jI:aK ["p","a","e","seen","N","left","freed","power","balls","r"] ["p","a","e","seen","N"] (aj dH):=⟨rfl,rfl,rfl,by decide +kernel,rfl,by decide +kernel,by decide +kernel⟩
abbrev fD:Stmt:=top 55
theorem nK:aK ["p","f","N"] ["p","f","N"] (aj fD):=⟨rfl,rfl,rfl,by decide +kernel,rfl,by decide +kernel,by decide +kernel⟩
abbrev fE:Stmt:=top 56
theorem nL:aK ["p","f","N"] ["p","f","N"] (aj fE):=⟨rfl,rfl,rfl,by decide +kernel,rfl,by decide +kernel,by decide +kernel⟩
abbrev gQ:Stmt:=top 61
theorem qL:aK ["text","signs"] ["text","signs"] (aj gQ):=⟨rfl,rfl,rfl,by decide +kernel,rfl,by decide +kernel,by decide +kernel⟩
abbrev eg:Stmt:=top 62
theorem kJ:aK ["text","below","figures"] ["text"] (aj eg):=⟨rfl,rfl,rfl,by decide +kernel,rfl,by decide +kernel,by decide +kernel⟩
abbrev fg:Stmt:=top 63
theorem mO:aK ["number"] ["number"] (aj fg):=⟨rfl,rfl,rfl,by decide +kernel,rfl,by decide +kernel,by decide +kernel⟩
abbrev gj:Stmt:=top 64
theorem qi:aK ["text"] ["text"] (aj gj):=⟨rfl,rfl,rfl,by decide +kernel,rfl,by decide +kernel,by decide +kernel⟩
abbrev iE:Stmt:=top 65
theorem tE:aK ["text","words"] ["text"] (aj iE):=⟨rfl,rfl,rfl,by decide +kernel,rfl,by decide +kernel,by decide +kernel⟩
abbrev iG:Stmt:=top 66
theorem tG:aK ["f"] ["f"] (aj iG):=⟨rfl,rfl,rfl,by decide +kernel,rfl,by decide +kernel,by decide +kernel⟩
abbrev jw:Stmt:=top 72
theorem uN:aK ["row","words"] ["row"] (aj jw):=⟨rfl,rfl,rfl,by decide +kernel,rfl,by decide +kernel,by decide +kernel⟩
abbrev iD:Stmt:=top 73
theorem tD:aK ["word"] ["word"] (aj iD):=⟨rfl,rfl,rfl,by decide +kernel,rfl,by decide +kernel,by decide +kernel⟩
abbrev gT:Stmt:=top 74
theorem qO:aK ["word","depth"] ["word"] (aj gT):=⟨rfl,rfl,rfl,by decide +kernel,rfl,by decide +kernel,by decide +kernel⟩
abbrev lx:Stmt:=top 75
theorem ym:aK ["texts","without"] ["texts","without"] (aj lx):=⟨rfl,rfl,rfl,by decide +kernel,rfl,by decide +kernel,by decide +kernel⟩
abbrev iB:Stmt:=top 76
theorem tu:aK ["p","things"] ["p","things"] (aj iB):=⟨rfl,rfl,rfl,by decide +kernel,rfl,by decide +kernel,by decide +kernel⟩
abbrev gS:Stmt:=top 77
theorem qN:aK ["p","things"] ["p","things"] (aj gS):=⟨rfl,rfl,rfl,by decide +kernel,rfl,by decide +kernel,by decide +kernel⟩
abbrev iC:Stmt:=top 78
theorem tw:aK ["p","things"] ["p","things"] (aj iC):=⟨rfl,rfl,rfl,by decide +kernel,rfl,by decide +kernel,by decide +kernel⟩
abbrev gR:Stmt:=top 79
theorem qM:aK ["p","things"] ["p","things"] (aj gR):=⟨rfl,rfl,rfl,by decide +kernel,rfl,by decide +kernel,by decide +kernel⟩
abbrev iI:Stmt:=top 80
theorem tI:aK ["p","things"] ["p","things"] (aj iI):=⟨rfl,rfl,rfl,by decide +kernel,rfl,by decide +kernel,by decide +kernel⟩
abbrev gZ:Stmt:=top 81
theorem qT:aK ["p","things","balls"] ["p","things"] (aj gZ):=⟨rfl,rfl,rfl,by decide +kernel,rfl,by decide +kernel,by decide +kernel⟩
abbrev gW:Stmt:=top 82
theorem qQ:aK ["p","things"] ["p","things"] (aj gW):=⟨rfl,rfl,rfl,by decide +kernel,rfl,by decide +kernel,by decide +kernel⟩
abbrev gn:Stmt:=top 83
theorem qk:aK ["p","things","depth"] ["p","things"] (aj gn):=⟨rfl,rfl,rfl,by decide +kernel,rfl,by decide +kernel,by decide +kernel⟩
abbrev iH:Stmt:=top 84
theorem tH:aK ["p","things"] ["p","things"] (aj iH):=⟨rfl,rfl,rfl,by decide +kernel,rfl,by decide +kernel,by decide +kernel⟩
abbrev gX:Stmt:=top 85
theorem qR:aK ["p","things"] ["p","things"] (aj gX):=⟨rfl,rfl,rfl,by decide +kernel,rfl,by decide +kernel,by decide +kernel⟩
abbrev gk:Stmt:=top 86
theorem qj:aK ["p","things"] ["p","things"] (aj gk):=⟨rfl,rfl,rfl,by decide +kernel,rfl,by decide +kernel,by decide +kernel⟩
abbrev gY:Stmt:=top 87
theorem qS:aK ["p","things","found","top","bottom"] ["p","things"] (aj gY):=⟨rfl,rfl,rfl,by decide +kernel,rfl,by decide +kernel,by decide +kernel⟩
abbrev ji:Stmt:=inner (top 91) 0
theorem uC:aK ["self","p"] ["self","p"] (aj ji):=⟨rfl,rfl,rfl,by decide +kernel,rfl,by decide +kernel,by decide +kernel⟩
abbrev sJ:Stmt:=inner (top 91) 1
theorem Gk:aK ["self","row","words","deed","things"] ["self","row"] (aj sJ):=⟨rfl,rfl,rfl,by decide +kernel,rfl,by decide +kernel,by decide +kernel⟩
abbrev jv:Stmt:=inner (top 91) 2
theorem uM:aK ["self","wanted","word"] ["self","wanted","word"] (aj jv):=⟨rfl,rfl,rfl,by decide +kernel,rfl,by decide +kernel,by decide +kernel⟩
abbrev ju:Stmt:=inner (top 91) 3
theorem uL:aK ["self","name"] ["self","name"] (aj ju):=⟨rfl,rfl,rfl,by decide +kernel,rfl,by decide +kernel,by decide +kernel⟩
abbrev o6:Stmt:=inner (top 91) 4
theorem Ds:aK ["self","name","polynomial"] ["self","name","polynomial"] (aj o6):=⟨rfl,rfl,rfl,by decide +kernel,rfl,by decide +kernel,by decide +kernel⟩
abbrev iu:Stmt:=top 93
theorem sX:aK ["script","k"] ["script","k"] (aj iu):=⟨rfl,rfl,rfl,by decide +kernel,rfl,by decide +kernel,by decide +kernel⟩
abbrev fV:Stmt:=top 94
theorem qG:aK ["cell","some"] ["cell"] (aj fV):=⟨rfl,rfl,rfl,by decide +kernel,rfl,by decide +kernel,by decide +kernel⟩
abbrev gL:Stmt:=top 96
theorem qH:aK ["f","g","found","i","j"] ["f","g"] (aj gL):=⟨rfl,rfl,rfl,by decide +kernel,rfl,by decide +kernel,by decide +kernel⟩
abbrev iw:Stmt:=top 97
theorem sY:aK ["p","cell","other","rest","k"] ["p","cell","other"] (aj iw):=⟨rfl,rfl,rfl,by decide +kernel,rfl,by decide +kernel,by decide +kernel⟩
abbrev ix:Stmt:=top 98
theorem sZ:aK ["p","script","start","f","k"] ["p","script","start"] (aj ix):=⟨rfl,rfl,rfl,by decide +kernel,rfl,by decide +kernel,by decide +kernel⟩
abbrev gM:Stmt:=top 99
theorem qI:aK ["words"] ["words"] (aj gM):=⟨rfl,rfl,rfl,by decide +kernel,rfl,by decide +kernel,by decide +kernel⟩
abbrev jj:Stmt:=top 100
theorem uD:aK ["way","p","f","cells","a","depth","most","found"] ["way","p","f","cells"] (aj jj):=⟨rfl,rfl,rfl,by decide +kernel,rfl,by decide +kernel,by decide +kernel⟩
abbrev jk:Stmt:=top 101
theorem uE:aK ["way","cells","a","depth","most","deep","rows"] ["way","cells"] (aj jk):=⟨rfl,rfl,rfl,by decide +kernel,rfl,by decide +kernel,by decide +kernel⟩
abbrev iy:Stmt:=top 102
theorem tj:aK ["desk","row","found","e"] ["desk","row"] (aj iy):=⟨rfl,rfl,rfl,by decide +kernel,rfl,by decide +kernel,by decide +kernel⟩
abbrev gi:Stmt:=top 103
theorem qh:aK ["way","p","f","cells","due","e"] ["way","p","f","cells"] (aj gi):=⟨rfl,rfl,rfl,by decide +kernel,rfl,by decide +kernel,by decide +kernel⟩
abbrev mD:Stmt:=top 104
theorem Gj:aK ["script","p","polys","depth","cells","first","desk","k","f","row","j","way"] ["script"] (aj mD):=⟨rfl,rfl,rfl,by decide +kernel,rfl,by decide +kernel,by decide +kernel⟩
noncomputable def bC (a b:Str):Bool:=a == b || b == "RestError"
noncomputable def w8:List Str:=["NoDepth","NoSingle","NoSmall","TooDeep"]
noncomputable def IZ:List Str:=["NoDepth","NoInverse","NoName","NoParts","NoPrime","NoRow","NoSingle","NoSmall","NoText","RestError","TooDeep","TooGreat"]
noncomputable def Ke (K:PySem.W.Frag):Bool:=w8.all λa=>PySem.W.kitOne K (.ref (cq K a)) (.type "ValueError") == some true && IZ.all λb=>PySem.W.kitOne K (.ref (cq K a)) (.ref (cq K b)) == some (bC a b)
structure Bi (mg:Str→Option Value)(K:PySem.W.Frag)(w:World):Prop where
 lS:ke K w 419 dA
 lR:mg "WANTED"=some (.ref 419)
 sA:ke K w 546 fq
 si:mg "MADE"=some (.ref 546)
 sC:ke K w 547 ir
 sj:mg "TOLD"=some (.ref 547)
 Ai:ej K 420 [.str "new",.str "poly"]
 Aj:ej K 421 [.str "new",.str "name",.str "name"]
 Ak:ej K 422 [.str "new",.str "name",.str "number",.str "depth"]
 Al:ej K 423 [.str "new",.str "name"]
 Am:ej K 424 [.str "name"]
 An:ej K 426 [.str "name"]
 Ao:ej K 427 [.str "name",.str "depth"]
 Ap:ej K 428 [.str "name",.str "depth"]
 Aq:ej K 429 [.str "name",.str "number"]
 As:ej K 430 [.str "name",.str "number",.str "depth"]
 Au:ej K 431 [.str "name",.str "depth"]
 Av:ej K 432 [.str "name"]
 Aw:ej K 433 [.str "number",.str "depth",.str "number"]
 mV:mg "made_poly"=some (.ref 469)
 lX:mg "made_times"=some (.ref 476)
 mW:mg "made_seen"=some (.ref 483)
 lW:mg "made_slope"=some (.ref 490)
 mY:mg "told_show"=some (.ref 497)
 md:mg "told_solve"=some (.ref 502)
 lY:mg "told_count"=some (.ref 509)
 kT:mg "told_single"=some (.ref 516)
 mX:mg "told_root"=some (.ref 523)
 lZ:mg "told_roots"=some (.ref 528)
 kS:mg "told_border"=some (.ref 533)
 ma:mg "told_small"=some (.ref 540)
 d9:oB K (cq K "Desk")
 ng:jH K (cq K "Desk") "prime"
 kX:jH K (cq K "Desk") "kept"
 JL:mg "abs"=none
 x8:mg "all"=none
 KQ:mg "bool"=none
 lC:mg "enumerate"=none
 x9:mg "int"=none
 dq:mg "isinstance"=none
 eI:mg "len"=none
 oK:mg "list"=none
 Gp:mg "max"=none
 JM:mg "min"=none
 fO:mg "range"=none
 uT:mg "reversed"=none
 yr:mg "sorted"=none
 ez:mg "str"=none
 JN:mg "sum"=none
 JO:mg "zip"=none
 rj:∃t,mg "FIGURES"=some (.str "0123456789" t)
 ao:∃t,mg "GREATEST_DEPTH"=some (.int 60 t)
 jW:∃t,mg "GREATEST_PRIME"=some (.int 97 t)
 rn:∃t,mg "LETTERS"=some (.str "abcdefghijklmnopqrstuvwxyz" t)
 fP:∃t,mg "MOST_FIGURES"=some (.int 60 t)
 kW:∃t,mg "MOST_LETTERS"=some (.int 8 t)
 dt:∃t,mg "MOST_NUMBERS"=some (.int 13 t)
 Iz:mg "Desk"=some (.ref (cq K "Desk"))
 nO:mg "NoDepth"=some (.ref (cq K "NoDepth"))
 JG:mg "NoInverse"=some (.ref (cq K "NoInverse"))
 Ku:mg "NoName"=some (.ref (cq K "NoName"))
 Kj:mg "NoParts"=some (.ref (cq K "NoParts"))
 Kk:mg "NoPrime"=some (.ref (cq K "NoPrime"))
 KO:mg "NoRow"=some (.ref (cq K "NoRow"))
 pC:mg "NoSingle"=some (.ref (cq K "NoSingle"))
 qV:mg "NoSmall"=some (.ref (cq K "NoSmall"))
 Kv:mg "NoText"=some (.ref (cq K "NoText"))
 tK:mg "RestError"=some (.ref (cq K "RestError"))
 qW:mg "TooDeep"=some (.ref (cq K "TooDeep"))
 Cn:mg "TooGreat"=some (.ref (cq K "TooGreat"))
 oa:kL K (cq K "NoDepth")
 qf:kL K (cq K "NoSingle")
 rY:kL K (cq K "NoSmall")
 rZ:kL K (cq K "TooDeep")
 qg:kL K (cq K "TooGreat")
 iO:PySem.W.exmOne K (.ref (cq K "NoDepth")) (.ref (cq K "RestError"))=some true
 ie:PySem.W.exmOne K (.ref (cq K "NoSingle")) (.ref (cq K "RestError"))=some true
 iP:PySem.W.exmOne K (.ref (cq K "NoSmall")) (.ref (cq K "RestError"))=some true
 iQ:PySem.W.exmOne K (.ref (cq K "TooDeep")) (.ref (cq K "RestError"))=some true
 rf:Xc.jT K (cq K "NoDepth")
 pG:Xc.jT K (cq K "NoSingle")
 rg:Xc.jT K (cq K "NoSmall")
 rh:Xc.jT K (cq K "TooDeep")
 ki:Ke K=true
theorem Bi.KR {mg:Str→Option Value}{K:PySem.W.Frag}{w:World}(B:Bi mg K w){a b:Str}{t:Bool}(h:a∈w8∧b∈IZ∧bC a b=t):PySem.W.kitOne K (.ref (cq K a)) (.ref (cq K b))=some t:=by
 have:=List.all_eq_true.mp B.ki a h.1
 rw [Bool.and_eq_true] at this
 have:=List.all_eq_true.mp this.2 b h.2.1
 rw [beq_iff_eq,h.2.2] at this
 exact this
variable {P:Program}{w:World}{K:PySem.W.Frag}{mg:Str→Option Value}{base:Heap}{f:Addr}{fd:FuncData}
theorem nV {p:Int}(h:2≤p∧p<1000):pe 0 p:=⟨by omega,by
 have h1:p.natAbs<1000:=by omega
 have h2:p.natAbs.log2<10:=(Nat.log2_lt (by omega)).mpr (Nat.lt_trans h1 (by decide))
 omega⟩
theorem ub {ns:List Int}{i:Int}(h0:0≤i)(h1:i<(ns.length:Int)):iX (ns.map V.int) i=some (.int (ns.getD i.toNat 0)):=by
 have hk:i.toNat<ns.length:=by omega
 have ek:i=((i.toNat:Nat):Int):=by omega
 have g:iX (ns.map V.int) ((i.toNat:Nat):Int)=some (.int (ns.getD i.toNat 0)):=aM (by rw [List.getElem?_map,List.getElem?_eq_getElem hk,List.getD_eq_getElem?_getD,List.getElem?_eq_getElem hk];rfl)
 rw [←ek] at g
 exact g
theorem getD_in {ns:List Int}{i:Int}(h0:0≤i)(h1:i<(ns.length:Int)):ns.getD i.toNat 0∈ns:=by
 rw [List.getD_eq_getElem?_getD,List.getElem?_eq_getElem (by omega)]
 exact List.getElem_mem _
theorem dO (x:Int){m:Int}(h:0<m):0≤x%m∧x%m<m:=⟨Int.emod_nonneg x (by omega),Int.emod_lt_of_pos x h⟩
def Sh (n:Int):Prop:=Builtin.Int.intBits n≤2^20+64
theorem vx {n m:Int}(h:Sh n)(hm:0<m):Sh (n/m):=by
 unfold Sh at *
 have:n/m=n.fdiv m:=(Int.fdiv_eq_ediv_of_nonneg n (by omega)).symm
 rw [this]
 exact PyProof.Rows.bits_fdiv h
theorem i6 {p:Int}(hp:2≤p∧p<1000)(n:Nat):(p^n).natAbs<2^(10*n+1):=by
 have h1:p^n≤1024^n:=va (by omega) (by omega) _
 have h2:(1024:Int)^n=((2^(10*n):Nat):Int):=by
  rw [Nat.pow_mul]
  simp
 have h3:=Dr.pow_pos hp.1 n
 rw [Nat.pow_succ]
 omega
theorem n8 {us:List Value}(h:us.length=1):∃a0,us=[a0]:=List.length_eq_one_iff.mp h
theorem fL:∀{us:List Value},us.length=2→∃a0 a1,us=[a0,a1]
 | [],h=>(by cases h)
 | a0::r,h=>by
  obtain⟨a1,rfl⟩:=n8 (us:=r) (by simpa using h)
  exact⟨a0,a1,rfl⟩
theorem n9:∀{us:List Value},us.length=3→∃a0 a1 a2,us=[a0,a1,a2]
 | [],h=>(by cases h)
 | a0::r,h=>by
  obtain⟨a1,a2,rfl⟩:=fL (us:=r) (by simpa using h)
  exact⟨a0,a1,a2,rfl⟩
theorem ES:∀{us:List Value},us.length=4→∃a0 a1 a2 a3,us=[a0,a1,a2,a3]
 | [],h=>(by cases h)
 | a0::r,h=>by
  obtain⟨a1,a2,a3,rfl⟩:=n9 (us:=r) (by simpa using h)
  exact⟨a0,a1,a2,a3,rfl⟩
theorem JF:∀{us:List Value},us.length=5→∃a0 a1 a2 a3 a4,us=[a0,a1,a2,a3,a4]
 | [],h=>(by cases h)
 | a0::r,h=>by
  obtain⟨a1,a2,a3,a4,rfl⟩:=ES (us:=r) (by simpa using h)
  exact⟨a0,a1,a2,a3,a4,rfl⟩
def eA (_:PySem.W.Frag):Sp:=λvs H Q _=>∃z y:Str,vs=[.str z,.str y]∧z.length≤2000∧∀(b:Bool) (H':Hp),aL H H'→(b=true↔∀c,c∈z.cps.toList→c∈y.cps.toList)→Q (.bl b) H'
theorem i9 {α:Type}{l:List α}{i:Nat}{c:α}(h:l[i]?=some c):l.take (i+1)=l.take i++[c]:=by
 rw [List.take_add_one,h]
 rfl
theorem HW {l:List Str}{i:Nat}{x:V}(h:(l.map V.str)[i]?=some x):∃w,l[i]?=some w∧x = .str w:=by
 rw [List.getElem?_map] at h
 cases e:l[i]? with
 | none=>rw [e] at h;cases h
 | some w=>
  rw [e] at h
  exact⟨w,rfl,(Option.some.inj h).symm⟩
theorem none_of {H H':Hp}{l:Addr}(g:aL H H')(n:H' l=none):H l=none:=by
 cases e:H l with
 | none=>rfl
 | some o=>
  have:=g _ _ e
  rw [n] at this
  cases this
theorem eC {H:Hp}{l:Addr}{o:_}(n:H l=none):aL H (upd H l o):=(cL rfl n).1
theorem DS {c:Nat}:decide (c∈(Str.ofString "0123456789").cps.toList)=decide (48≤c∧c≤57):=by
 rw [show (Str.ofString "0123456789").cps.toList=[48,49,50,51,52,53,54,55,56,57] by decide +kernel]
 rw [decide_eq_decide]
 simp only [List.mem_cons,List.not_mem_nil,or_false]
 omega
set_option hygiene false in
local macro_rules | `(tactic| walk_at "p") => `(tactic| ((try dsimp only);(first | refine hX _ _ ?_ | skip);(try dsimp only);(first | refine bY (λX hX=>?_) | skip);try walk_at "dr2"))
set_option hygiene false in
local macro_rules | `(tactic| walk_at "r") => `(tactic| ((try dsimp only);(first | refine cB ?_ | skip);try walk_at "dr2"))
set_option hygiene false in
local macro_rules | `(tactic| walk_at "q") => `(tactic| ((first | refine hX _ _ ?_ | skip);(try dsimp only);try walk_at "dr1"))
local macro_rules | `(tactic| walk_at "dr1") => `(tactic| simp only [Di, Df, Gb, C9, FZ, JB, Dj, tB, FU, JC, Ga, Dg, uz, fk, pK, Fh, ic, pJ, FV, jD, tC, n5, JE, rI, tX, rU, Gx, Js, IQ, C7, pX, Gd, De, vF, GQ, JD, wu, Dh, Fi, C4, CU, yc, we, C8, CZ, FI, wg, CV, CW, Jz, FW, wc, FG, FH, Ad, Ae, Af, Ends.gone, zZ, ID, IA, GV, Int.reduceLT, Int.reduceLE, Nat.reduceLT, Nat.reduceLeDiff, GU, ET, Ce, cg, Option.getD_some, CG, CH, CI, CF, Fm, L2.start, GD, GB, GF, GI, GK, GJ, GC, GG, tQ, tR, sx, vQ, List.getElem?_cons_zero, List.getElem?_cons_succ, List.set_cons_zero, List.set_cons_succ, List.map_cons, List.map_nil, List.cons_append, List.nil_append, List.append_nil, List.replicate_succ, List.replicate_zero, List.length_cons, List.length_nil, Option.some.injEq, exists_eq, exists_eq', exists_eq_left, exists_eq_left', exists_and_left, exists_and_right, List.cons.injEq, V.int.injEq, V.bl.injEq, V.ref.injEq, V.str.injEq, V.ty.injEq, reduceCtorEq, and_true, true_and, and_assoc, false_and, and_false, or_false, false_or, exists_false, decide_eq_true_eq, Bool.not_eq_true', decide_eq_false_iff_not, Bool.not_eq_false', Bool.not_eq_true, Bool.false_eq_true, Bool.true_eq_false, ite_true, ite_false, if_true, if_false, Bool.not_true, Bool.not_false, Bool.true_eq, Bool.or_true, Bool.or_false, Bool.true_or, Bool.false_or, Bool.and_true, Bool.and_false, beq_self_eq_true, decide_true, decide_false, eq_self_iff_true, not_true_eq_false, not_false_eq_true, Dc, F0, Dd, zY, yg, Ac, yf, FX, FP, wq, Aa, yd, FY, Ab])
theorem xH (B:Bi mg K w)(F:cD K "is_made_of" "is_made_of" gQ f fd):bc P w K mg base cY 1 f fd ["text","signs"] (eA K):=by
 refine F.ok qL (λvs H Q E h=>?_) (λcdv A outer s H vs Q E hr h=>?_)
 ·obtain⟨z,y,rfl,_⟩:=h
  rfl
 obtain⟨z,y,rfl,hz,q⟩:=h
 have S:=qL
 refine⟨_,((ak (aC (aZ (nP rfl) rfl B.x8 uV (aa (eU [1] ["signs"] rfl rfl ⟨rfl,trivial⟩ ⟨rfl,rfl,rfl,rfl,trivial⟩ rfl rfl (by decide) (by decide) rfl rfl (by decide) (Jr (pv 0)) (λ_ _ _ _=>dG) (λ_ _ _ _=>(mH Ed (pv 0) (pv 1) rfl))) ae))))),?_⟩
 walk_at "q";(try simp only [IP]);try walk_at "dr1"
 obtain⟨Pv,hPv⟩:∃Pv:Nat→List V→Hp→Prop,∀i ys H',Pv i ys H'↔(H'=H∧ys=(((z.cps.toList.take i).map λc=>decide (c∈y.cps.toList)).map V.bl)):=⟨_,λ_ _ _=>Iff.rfl⟩
 have hz':z.cps.toList.length≤2000:=by simpa [Str.length] using hz
 refine JP z Pv (Nat.le_trans hz' (by decide)) ((hPv _ _ _).mpr ⟨rfl,by simp⟩) (λi c ys H2 hc p=>?_) (λys H2 p l n_l=>?_)
 ·obtain⟨rfl,rfl⟩:=(hPv _ _ _).mp p
  walk_at "q"
  refine (hPv _ _ _).mpr ⟨rfl,?_⟩
  rw [StrLaws.found_one,i9 hc,List.map_append,List.map_append]
  rfl
 ·obtain⟨rfl,rfl⟩:=(hPv _ _ _).mp p
  refine⟨l,rfl,_,az.of aS,?_⟩
  refine q _ _ (eC n_l) ?_
  rw [List.take_length,List.all_map,List.all_eq_true]
  simp
def ik (_:PySem.W.Frag):Sp:=λvs H Q _=>∃z:Str,vs=[.str z]∧z.length≤2000∧∀(b:Bool) (H':Hp),aL H H'→(b=true↔Tx.Wr z.cps.toList)→Q (.bl b) H'
local macro_rules | `(tactic| walk_at "dr2") => `(tactic| simp only [Df, Gb, C9, FZ, JB, Dj, tB, FU, JC, Ga, Dg, uz, fk, pK, Fh, ic, pJ, FV, jD, tC, n5, JE, rI, tX, rU, Gx, Js, IQ, C7, pX, Gd, De, vF, GQ, JD, wu, Dh, Fi, C4, CU, yc, we, C8, CZ, FI, wg, CV, CW, Jz, FW, wc, FG, FH, Ad, Ae, Af, Ends.gone, zZ, ID, IA, GV, Int.reduceLT, Int.reduceLE, Nat.reduceLT, Nat.reduceLeDiff, GU, ET, Ce, cg, Option.getD_some, CG, CH, CI, CF, Fm, L2.start, GD, GB, GF, GI, GK, GJ, GC, GG, tQ, tR, sx, vQ, List.getElem?_cons_zero, List.getElem?_cons_succ, List.set_cons_zero, List.set_cons_succ, List.map_cons, List.map_nil, List.cons_append, List.nil_append, List.append_nil, List.replicate_succ, List.replicate_zero, List.length_cons, List.length_nil, Option.some.injEq, exists_eq, exists_eq', exists_eq_left, exists_eq_left', exists_and_left, exists_and_right, List.cons.injEq, V.int.injEq, V.bl.injEq, V.ref.injEq, V.str.injEq, V.ty.injEq, reduceCtorEq, and_true, true_and, and_assoc, false_and, and_false, or_false, false_or, exists_false, decide_eq_true_eq, Bool.not_eq_true', decide_eq_false_iff_not, Bool.not_eq_false', Bool.not_eq_true, Bool.false_eq_true, Bool.true_eq_false, ite_true, ite_false, if_true, if_false, Bool.not_true, Bool.not_false, Bool.true_eq, Bool.or_true, Bool.or_false, Bool.true_or, Bool.false_or, Bool.and_true, Bool.and_false, beq_self_eq_true, decide_true, decide_false, eq_self_iff_true, not_true_eq_false, not_false_eq_true, Dc, F0, Dd, zY, yg, Ac, yf, FX, FP, wq, Aa, yd, FY, Ab])
theorem pT (B:Bi mg K w)(mT:Def P w K mg base "is_made_of" 1 ["text","signs"] (eA K))(F:cD K "is_written_number" "is_written_number" eg f fd):bc P w K mg base cY 2 f fd ["text"] (ik K):=by
 refine F.ok kJ (λvs H Q E h=>?_) (λcdv A outer s H vs Q E hr h=>?_)
 ·obtain⟨z,rfl,_⟩:=h
  rfl
 obtain⟨z,rfl,hz,q⟩:=h
 have S:=kJ
 obtain⟨t1,rj⟩:=B.rj
 obtain⟨t2,fP⟩:=B.fP
 refine⟨_,((af (aB (i:=1) S.nd rfl (Or.inl rfl) (jf PySem.F.plainAttrs_str PySem.F.slot_str_startswith PySem.F.type_str_startswith xc (pv 0) (aa bH ae)))
  (af (lh (aB (i:=2) S.nd rfl (Or.inl rfl) (zE (gx (pv 1)) (nt ED (pv 0) (oZ ag) oY) (pv 0))))
  (af (bN (PW.pt (jh (aF kz (aZ kj rfl B.eI PySem.boot_len (aa (pv 2) ae)) ag (aQ _)) (jh (aF lF (aZ kj rfl B.eI PySem.boot_len (aa (pv 2) ae)) (ee (v:=.int 60) rfl fP ⟨_,rfl⟩) (aQ _)) (jO (i7 (gx (aD mT hr rfl (aa (pv 2) (aa (ee (v:=.str "0123456789") rfl rj ⟨_,rfl⟩) ae))))))))) (ak (aC mz)) aR)
  (af (bN (aF cP (pv 2) bH (aQ _)) (ak (aC (Ei (pv 1)))) aR)
  (ak (aC (Ei (jf PySem.F.plainAttrs_str PySem.F.slot_str_startswith PySem.F.type_str_startswith xc (pv 2) (aa bH ae)))))))))),?_⟩
 walk_at "p";(try simp only [eA]);try walk_at "dr2"
 refine⟨rfl,z,_,rfl,rfl,?_⟩
 rw [Tx.zX]
 have hz':=Tx.len_list z
 obtain⟨R,hR⟩:∃R:St→Hp→Prop,∀σ' H2,R σ' H2↔(∃y:Str,y.cps.toList=Tx.i0 z.cps.toList∧H2=H∧σ'=[some (.str z),some (.bl (Tx.neg z.cps.toList)),some (.str y)]):=⟨_,λ_ _=>Iff.rfl⟩
 dsimp only
 (first | refine hX _ _ ?_ | skip);refine cB ?_
 (first | refine hX _ _ ?_ | skip);refine pP R ?_ ?_
 ·walk_at "q";(try simp only [eA]);try walk_at "dr1"
  cases hn:Tx.neg z.cps.toList with
  | true=>
   rw [if_pos rfl]
   have e:=Tx.lD hn
   have l1:1≤z.length:=by rw [hz',e];simp
   refine⟨z,rfl,Nat.le_trans hz (by decide),(hR _ _).mpr ⟨_,?_,rfl,by rw [hn]⟩⟩
   rw [Tx.B3 (by decide) (by omega),e]
   rfl
  | false=>
   rw [if_neg (by decide)]
   exact (hR _ _).mpr ⟨z,(Tx.jK hn).symm,rfl,by rw [hn]⟩
 intro σ' H2 w0
 obtain⟨y,hy,rfl,rfl⟩:=(hR _ _).mp w0
 clear hR w0
 have hyl:y.length≤2000:=by
  rw [Tx.len_list,hy]
  rw [hz'] at hz
  cases hn:Tx.neg z.cps.toList with
  | true=>
   rw [Tx.lD hn] at hz
   simp only [List.length_cons] at hz
   omega
  | false=>rw [Tx.jK hn];exact hz
 have hyn:=Tx.len_list y
 rw [hy] at hyn
 walk_at "p";(try simp only [eA]);try walk_at "dr2"
 refine⟨Nat.le_trans hyl (by decide),cG (λc1=>q false _ (aL.refl _) ⟨nofun,λw=>absurd w.one (by omega)⟩) (λc1=>⟨Nat.le_trans hyl (by decide),cG (λc2=>q false _ (aL.refl _) ⟨nofun,λw=>absurd w.most (by omega)⟩) (λc2=>⟨hyl,λb H' g hb0=>?_⟩)⟩)⟩
 rw [hy] at hb0
 have hb:b=true↔∀c,c∈Tx.i0 z.cps.toList→48≤c∧c≤57:=hb0.trans (forall_congr' λc=>imp_congr_right λ_=>by have:=DS (c:=c);rwa [decide_eq_decide] at this)
 cases b with
 | false=>exact q false _ g ⟨nofun,λw=>absurd (hb.mpr w.all) (by decide)⟩
 | true=>
  rw [if_neg (by decide)]
  have hall:=hb.mp rfl
  walk_at "q";(try simp only [eA,BX,J9]);try walk_at "dr1"
  refine cG (λc3=>q _ _ g ?_) (λc3=>q _ _ g ?_)
  ·have e:Tx.i0 z.cps.toList=[48]:=by rw [←hy,c3,Tx.i5]
   constructor
   ·intro hn
    refine⟨by omega,by omega,hall,λr hr=>?_⟩
    rw [e] at hr
    cases hr
    exact⟨rfl,by simpa using hn⟩
   ·intro w
    rw [(w.head [] e).2]
    rfl
  ·rw [Tx.i5,Tx.vC,hy]
   constructor
   ·intro hn
    refine⟨by omega,by omega,hall,λr hr=>?_⟩
    rw [hr] at hn
    simp at hn
   ·intro w
    have:(Tx.i0 z.cps.toList).head?≠some 48:=λhh=>by
     cases hf:Tx.i0 z.cps.toList with
     | nil=>rw [hf] at hh;cases hh
     | cons a r=>
      rw [hf] at hh
      cases hh
      have:=(w.head r hf).1
      subst this
      exact c3 (Tx.ext (by rw [hy,hf,Tx.i5]))
    simpa using this
def cz (_:PySem.W.Frag):Sp:=λvs H Q _=>∃z:Str,vs=[.str z]∧Tx.Wr z.cps.toList∧∀H',aL H H'→Q (.int (Tx.valOf z.cps.toList)) H'
theorem v5 (B:Bi mg K w)(qB:Def P w K mg base "is_written_number" 2 ["text"] (ik K))(F:cD K "read_number" "read_number" gj f fd):bc P w K mg base cY 3 f fd ["text"] (cz K):=by
 refine F.ok qi (λvs H Q E h=>?_) (λcdv A outer s H vs Q E hr h=>?_)
 ·obtain⟨z,rfl,_⟩:=h
  rfl
 obtain⟨z,rfl,hw,q⟩:=h
 have S:=qi
 have wl:=hw.len
 refine⟨_,((af (bN (PW.pt (jh (i7 (gx (aZ lP rfl B.dq L2.cW (aa (pv 0) (aa (oV (v:=.ty "str") rfl B.ez L2.dD rfl) ae))))) (jO (i7 (gx (aD qB hr rfl (aa (pv 0) ae))))))) (ak ff) aR)
  (ak (aC (cb Dy rfl B.x9 L2.uW (aa (pv 0) ae)))))),?_⟩
 walk_at "q";(try simp only [ik,Gy]);try walk_at "dr1"
 refine⟨by omega,λb H' g hb=>?_⟩
 cases b with
 | false=>exact absurd (hb.mpr hw) (by decide)
 | true=>
  rw [if_neg (by decide)]
  exact⟨_,hw.reads,by omega,q H' g⟩
def fX (_:PySem.W.Frag):Sp:=λvs H Q _=>∃(z:Str) (ms:List Int),vs=[.str z]∧z.length≤2000∧Tx.fv z=some ms∧∀c H',aL H H'→H c=none→H' c=some (.lst (ms.map V.int))→Q (.ref c) H'
theorem zt (B:Bi mg K w)(iq:Def P w K mg base "read_number" 3 ["text"] (cz K))(F:cD K "read_poly" "read_poly" iE f fd):bc P w K mg base cY 4 f fd ["text"] (fX K):=by
 refine F.ok tE (λvs H Q E h=>?_) (λcdv A outer s H vs Q E hr h=>?_)
 ·obtain⟨z,ms,rfl,_⟩:=h
  rfl
 obtain⟨z,ms,rfl,hz,hp,q⟩:=h
 have S:=tE
 obtain⟨t1,dt⟩:=B.dt
 obtain⟨w13,wall,wms⟩:=Tx.Ep hp
 refine⟨_,((af (bN (i7 (gx (aZ lP rfl B.dq L2.cW (aa (pv 0) (aa (oV (v:=.ty "str") rfl B.ez L2.dD rfl) ae))))) (ak ff) aR)
  (af (aB (i:=1) S.nd rfl (Or.inl rfl) (jf PySem.F.plainAttrs_str PySem.F.slot_str_split PySem.F.type_str_split ze (pv 0) (aa bH ae)))
  (af (bN (aF lF (aZ cv rfl B.eI PySem.boot_len (aa (pv 1) ae)) (ee (v:=.int 13) rfl dt ⟨_,rfl⟩) (aQ _)) (ak ff) aR)
  (ak (aC (eU [] [] rfl rfl trivial trivial rfl rfl (by decide) (by decide) rfl rfl (by decide) (d3 (pv 1)) (λ_ _ _ _=>dG) (λ_ _ _ _=>(aD iq hr rfl (aa (pv 0) ae)))))))))),?_⟩
 walk_at "p";(try simp only [cz]);try walk_at "dr2"
 walk_at "p";(try simp only [cz]);try walk_at "dr2"
 refine⟨rfl,z,_,rfl,rfl,by decide +kernel,Nat.le_trans (Nat.add_le_add_right hz 2) (by decide),?_⟩
 intro l1 n_l1;generalize e0:upd _ l1 _=H1;obtain⟨g1,k1⟩:=cL e0 n_l1;clear e0
 have k1:H1 l1=some (.lst ((Tx.words z).map V.str)):=k1
 walk_at "p";(try simp only [cz]);try walk_at "dr2"
 refine⟨_,.inl (az.of k1),cG (λc=>?_) (λc=>?_)⟩
 ·rw [List.length_map] at c
  omega
 walk_at "q";(try simp only [cz]);try walk_at "dr1"
 obtain⟨Pv,hPv⟩:∃Pv:Nat→List V→Hp→Prop,∀i ys H',Pv i ys H'↔(aL H1 H'∧ys=((((Tx.words z).take i).map λw=>Tx.valOf w.cps.toList).map V.int)):=⟨_,λ_ _ _=>Iff.rfl⟩
 refine⟨⟨_,az.of k1⟩,?_⟩
 (first | refine hX _ _ ?_ | skip);refine Gq ((Tx.words z).map V.str) Pv (by rw [List.length_map];exact Nat.le_trans w13 (by decide)) ((hPv _ _ _).mpr ⟨aL.refl _,rfl⟩) (λi ys H2 p=>?_) (λi x ys H2 hx p=>?_) (λys H2 p l n_l=>?_)
 ·exact az.of (((hPv _ _ _).mp p).1 _ _ k1)
 ·obtain⟨g2,rfl⟩:=(hPv _ _ _).mp p
  obtain⟨w,hw',rfl⟩:=HW hx
  walk_at "q";(try simp only [cz]);try walk_at "dr1"
  refine⟨wall w (List.mem_of_getElem? hw'),λH3 g3=>(hPv _ _ _).mpr ⟨g2.trans g3,?_⟩⟩
  rw [i9 hw',List.map_append,List.map_append]
  rfl
 ·rw [List.length_map] at p
  obtain⟨g2,rfl⟩:=(hPv _ _ _).mp p
  rw [List.take_length,←wms]
  exact q l _ (g1.trans (g2.trans (eC n_l))) (none_of (g1.trans g2) n_l) aS
def dX (K:PySem.W.Frag):Sp:=λvs H Q _=>∃(z w0:Str) (ws:List Str) (a:Addr) (xs:List V),vs=[.str z]∧z.length≤2000∧Txt.split z (Str.ofString " ")=w0::ws∧atK dA w0=some (.ref a)∧ej K a xs∧xs.length=ws.length∧∀l H',aL H H'→H l=none→H' l=some (.lst ((w0::ws).map V.str))→Q (.ref l) H'
theorem Bm (B:Bi mg K w)(F:cD K "words_of" "words_of" jw f fd):bc P w K mg base cY 1 f fd ["row"] (dX K):=by
 refine F.ok uN (λvs H Q E h=>?_) (λcdv A outer s H vs Q E hr h=>?_)
 ·obtain⟨z,w0,ws,a,xs,rfl,_⟩:=h
  rfl
 obtain⟨z,w0,ws,a,xs,rfl,hz,hsp,hat,htu,hlen,q⟩:=h
 have S:=uN
 refine⟨_,((af (bN (i7 (gx (aZ lP rfl B.dq L2.cW (aa (pv 0) (aa (oV (v:=.ty "str") rfl B.ez L2.dD rfl) ae))))) (ak ff) aR)
  (af (aB (i:=1) S.nd rfl (Or.inl rfl) (jf PySem.F.plainAttrs_str PySem.F.slot_str_split PySem.F.type_str_split ze (pv 0) (aa bH ae)))
  (af (bN (PW.pt (jh (vt (Ht B.lS rfl B.lR (ba bK (pv 1) ag (λ_ _=>rfl)))) (jO (aF my (aZ cv rfl B.eI PySem.boot_len (aa (pv 1) ae)) (av cS (aZ cv rfl B.eI PySem.boot_len (aa (sE B.lS rfl B.lR (ba bK (pv 1) ag (λ_ _=>rfl)) (λ_ _=>rfl)) ae)) ag) (aQ _))))) (ak ff) aR)
  (ak (aC (pv 1))))))),?_⟩
 walk_at "p"
 walk_at "p"
 refine⟨rfl,z,_,rfl,rfl,by decide +kernel,Nat.le_trans (Nat.add_le_add_right hz 2) (by decide),?_⟩
 intro l1 n_l1;generalize e0:upd _ l1 _=H1;obtain⟨g1,k1⟩:=cL e0 n_l1;clear e0
 have k1:H1 l1=some (.lst ((w0::ws).map V.str)):=by rw [k1,hsp]
 walk_at "p"
 refine⟨_,az.of k1,_,aM (j:=0) rfl,w0,rfl,?_⟩
 rw [hat,if_neg (by intro z;cases z)]
 refine⟨_,.inl (az.of k1),_,az.of k1,_,aM (j:=0) rfl,w0,rfl,a,hat,_,.inr (htu.sq _),?_⟩
 rw [if_neg (λn=>n (by rw [hlen,List.length_map,List.length_cons];rfl))]
 walk_at "q"
 exact q l1 H1 g1 n_l1 k1
structure Nm (z:Str):Prop where
 one:1≤z.length
 most:z.length≤8
 all:∀c,c∈z.cps.toList→c∈(Str.ofString "abcdefghijklmnopqrstuvwxyz").cps.toList
def fW (_:PySem.W.Frag):Sp:=λvs H Q _=>∃z:Str,vs=[.str z]∧Nm z∧∀H',aL H H'→Q (.str z) H'
theorem zr (B:Bi mg K w)(mT:Def P w K mg base "is_made_of" 1 ["text","signs"] (eA K))(F:cD K "read_name" "read_name" iD f fd):bc P w K mg base cY 2 f fd ["word"] (fW K):=by
 refine F.ok tD (λvs H Q E h=>?_) (λcdv A outer s H vs Q E hr h=>?_)
 ·obtain⟨z,rfl,_⟩:=h
  rfl
 obtain⟨z,rfl,hn,q⟩:=h
 have S:=tD
 obtain⟨t1,rn⟩:=B.rn
 obtain⟨t2,kW⟩:=B.kW
 have h1:=hn.one
 have h2:=hn.most
 refine⟨_,((af (bN (PW.pt (jh (aF kz (aZ kj rfl B.eI PySem.boot_len (aa (pv 0) ae)) ag (aQ _)) (jh (aF lF (aZ kj rfl B.eI PySem.boot_len (aa (pv 0) ae)) (ee (v:=.int 8) rfl kW ⟨_,rfl⟩) (aQ _)) (jO (i7 (gx (aD mT hr rfl (aa (pv 0) (aa (ee (v:=.str "abcdefghijklmnopqrstuvwxyz") rfl rn ⟨_,rfl⟩) ae))))))))) (ak ff) aR)
  (ak (aC (pv 0))))),?_⟩
 walk_at "p";(try simp only [eA]);try walk_at "dr2"
 refine⟨Nat.le_trans h2 (by decide),cG (λc=>by omega) (λ_=>⟨Nat.le_trans h2 (by decide),cG (λc=>by omega) (λ_=>⟨by omega,λb H' g hb=>?_⟩)⟩)⟩
 cases b with
 | false=>exact absurd (hb.mpr hn.all) (by decide)
 | true=>
  rw [if_neg (by decide)]
  walk_at "q";(try simp only [eA]);try walk_at "dr1"
  exact q H' g
def fH (_:PySem.W.Frag):Sp:=λvs H Q _=>∃z:Str,vs=[.str z]∧Tx.Wr z.cps.toList∧(0≤Tx.valOf z.cps.toList∧Tx.valOf z.cps.toList≤60)∧∀H',aL H H'→Q (.int (Tx.valOf z.cps.toList)) H'
theorem xK (B:Bi mg K w)(iq:Def P w K mg base "read_number" 3 ["text"] (cz K))(F:cD K "read_depth" "read_depth" gT f fd):bc P w K mg base cY 4 f fd ["word"] (fH K):=by
 refine F.ok qO (λvs H Q E h=>?_) (λcdv A outer s H vs Q E hr h=>?_)
 ·obtain⟨z,rfl,_⟩:=h
  rfl
 obtain⟨z,rfl,hw,hd,q⟩:=h
 have S:=qO
 obtain⟨t1,ao⟩:=B.ao
 refine⟨_,((af (aB (i:=1) S.nd rfl (Or.inl rfl) (aD iq hr rfl (aa (pv 0) ae)))
  (af (bN (PW.pt (jh (aF kz (pv 1) ag (aQ _)) (jO (aF lF (pv 1) (ee (v:=.int 60) rfl ao ⟨_,rfl⟩) (aQ _))))) (ak ff) aR)
  (ak (aC (pv 1)))))),?_⟩
 walk_at "p";(try simp only [cz]);try walk_at "dr2"
 refine⟨hw,λH' g=>?_⟩
 walk_at "p";(try simp only [cz]);try walk_at "dr2"
 refine cG (λc=>by omega) (λ_=>cG (λc=>by omega) (λ_=>?_))
 walk_at "q";(try simp only [cz]);try walk_at "dr1"
 exact q H' g
def aw (_:PySem.W.Frag):Sp:=λvs H Q _=>∃(p e:Int),vs=[.int p,.int e]∧(2≤p∧p<1000)∧(0≤e∧e<100000)∧Q (.int (p^e.toNat)) H
theorem Bh (B:Bi mg K w)(F:cD K "power_of" "power_of" jr f fd):bc P w K mg base cY 1 f fd ["p","e"] (aw K):=by
 refine F.ok uJ (λvs H Q E h=>?_) (λcdv A outer s H vs Q E hr h=>?_)
 ·obtain⟨p,e,rfl,_⟩:=h
  rfl
 obtain⟨p,e,rfl,hp,he,q⟩:=h
 have S:=uJ
 refine⟨_,((af (aB (i:=2) S.nd rfl (Or.inl rfl) ag)
  (af (fK PassesOwn.never rfl (h8 rfl B.fO (aa (pv 1) ae)) (cI (i:=3) S.nd rfl (Or.inl rfl)) (ak (aB (i:=2) S.nd rfl (Or.inl rfl) (av cA (pv 2) (pv 0)))))
  (ak (aC (pv 2)))))),?_⟩
 refine⟨_,rfl,e,rfl,by omega,by omega,?_⟩
 refine w5 (n:=e.toNat) (λi σ H'=>H'=H∧∃t,σ=[some (.int p),some (.int e),some (.int (p^i)),t]) ⟨rfl,none,by rw [Int.pow_zero];rfl⟩ ?_ ?_
 ·rintro i σ H' hi ⟨rfl,t,rfl⟩
  refine⟨_,rfl,_,rfl,_,_,rfl,rfl,IntMulOk.of_right (intBits_le_64 (by omega) (by omega)),rfl,some (.int (0+(i:Int))),?_⟩
  rw [Int.pow_succ]
  rfl
 ·rintro σ H' ⟨rfl,t,rfl⟩
  exact⟨_,rfl,q⟩
def eX (_:PySem.W.Frag):Sp:=λvs H Q _=>∃n:Int,vs=[.int n]∧n.natAbs<10^60∧Q (.bl true) H
theorem sR (B:Bi mg K w)(bZ:Def P w K mg base "power_of" 1 ["p","e"] (aw K))(F:cD K "can_be_written" "can_be_written" fg f fd):bc P w K mg base cY 2 f fd ["number"] (eX K):=by
 refine F.ok mO (λvs H Q E h=>?_) (λcdv A outer s H vs Q E hr h=>?_)
 ·obtain⟨n,rfl,_⟩:=h
  rfl
 obtain⟨n,rfl,hn,q⟩:=h
 have S:=mO
 obtain⟨t1,fP⟩:=B.fP
 refine⟨_,((ak (aC (mH kz (aZ E4 rfl B.JL Iv (aa (pv 0) ae)) (aD bZ hr rfl (aa ag (aa (ee (v:=.int 60) rfl fP ⟨_,rfl⟩) ae))) (aQ _))))),?_⟩
 walk_at "q";(try simp only [aw]);try walk_at "dr1"
 have hM:(10:Int)^Int.toNat 60=((10^60:Nat):Int):=by decide +kernel
 rw [hM]
 generalize (10^60:Nat)=M at hn ⊢
 rw [decide_eq_true (by split<;>omega)]
 exact q
def nB (K:PySem.W.Frag):Sp:=λvs H Q _=>∃(p:Int) (a:Addr) (x y:V) (xs:List V),vs=[.int p,.ref a]∧az K H a (x::y::xs)∧Q y H
theorem zp (B:Bi mg K w)(F:cD K "made_poly" "made_poly" iB f fd):bc P w K mg base (eh P w) 1 f fd ["p","things"] (nB K):=by
 refine F.jM tu (λvs H Q E h=>?_) (λcdv A outer s H vs Q E hr h=>?_)
 ·obtain⟨p,a,x,y,xs,rfl,_⟩:=h
  rfl
 obtain⟨p,a,x,y,xs,rfl,hS,q⟩:=h
 have S:=tu
 refine⟨_,((ak (aC (ba bK (pv 1) ag (λ_ _=>rfl))))),?_⟩
 walk_at "q"
 exact⟨_,hS,_,aM (j:=1) rfl,q⟩
def jP (_:PySem.W.Frag):Sp:=λvs H Q _=>∃(n:Int),vs=[.int n]∧n<2^60∧∀b:Bool,(b=true↔Dr.Ih n)→Q (.bl b) H
theorem Hf {n d:Int}(hd:2≤d)(h:∀e:Int,2≤e→e<d→n%e≠0)(hn:2≤n)(c:¬d*d≤n):Dr.Ih n:=by
 refine⟨hn,λe he hee=>h e he ?_⟩
 refine Int.lt_of_not_ge λz=>c ?_
 exact Int.le_trans (Int.mul_le_mul z z (by omega) (by omega)) hee
theorem Bg (B:Bi mg K w)(F:cD K "is_prime" "is_prime" jq f fd):bc P w K mg base cY 1 f fd ["thing"] (jP K):=by
  refine F.ok uI (λvs H Q E h=>?_) (λcdv A outer s H vs Q E hr h=>?_)
  · obtain⟨n,rfl,_⟩:=h
    rfl
  obtain⟨n,rfl,hn,q⟩:=h
  have S:=uI
  refine⟨_,((af (bN (PW.pt (jh (i7 (gx (aZ lP rfl B.dq L2.cW (aa (pv 0) (aa (oV (v:=.ty "int") rfl B.x9 L2.uW rfl) ae))))) (jO (aF kz (pv 0) ag (aQ _))))) (ak (aC mz)) aR)
    (af (aB (i:=1) S.nd rfl (Or.inl rfl) ag)
    (af (ll PassesOwn.never (aF Gu (av cA (pv 1) (pv 1)) (pv 0) (aQ _)) (af (bN (aF cP (av cp (pv 0) (pv 1)) ag (aQ _)) (ak (aC mz)) aR)
    (ak (zJ (i:=1) S.nd rfl (Or.inl rfl) ag rp))))
    (ak (aC mz)))))),?_⟩
  walk_at "q"
  refine cG (λc=>q false ⟨λz=>(by cases z),λz=>absurd z.1 (by omega)⟩) (λc=>?_)
  obtain⟨W,hW⟩:∃W:Nat→St→Hp→Prop,∀m σ H',W m σ H'↔(H'=H∧∃d:Int,σ=[some (.int n),some (.int d)]∧2≤d∧(∀e:Int,2≤e→e<d→n%e≠0)∧d≤n∧m=(n+1-d).toNat):=⟨_,λ_ _ _=>Iff.rfl⟩
  (first | refine hX _ _ ?_ | skip);refine EU W (n+1-2).toNat ((hW _ _ _).mpr ⟨rfl,2,rfl,by omega,λe h1 h2=>by omega,by omega,rfl⟩) ?_
  intro m σ H' z
  obtain⟨rfl,d,rfl,hd,h1,h2,rfl⟩:=(hW _ _ _).mp z
  walk_at "q"
  refine⟨IntMulOk.of_left (intBits_le_64 (by omega) (by omega)),cG (λc1=>?_) (λc1=>?_)⟩
  · refine⟨_,λ_ _ h=>h,?_⟩
    refine⟨by omega,cG (λc2=>?_) (λc2=>?_)⟩
    · exact q false ⟨λz=>(by cases z),λz=>absurd c2 (z.2 d hd c1)⟩
    · have hlt:d<n:=by
        have:d*2≤d*d:=Int.mul_le_mul_of_nonneg_left hd (by omega)
        omega
      refine⟨(n+1-(d+1)).toNat,by omega,(hW _ _ _).mpr ⟨rfl,d+1,rfl,by omega,λe e1 e2=>?_,by omega,rfl⟩⟩
      by_cases w:e=d
      · rw [w];exact c2
      · exact h1 e e1 (by omega)
  · exact q true ⟨λ_=>Hf hd h1 (by omega) c1,λ_=>rfl⟩
theorem IT {p:Int}(hp:p∈Dr.cm):Dr.Ih p:=by
 refine⟨(Dr.cy hp).1,λe he hee=>?_⟩
 have h97:=(Dr.cy hp).2
 have h9:e<10:=by
  refine Int.lt_of_not_ge λz=>?_
  have:=Int.mul_le_mul z z (by decide) (by omega)
  omega
 rcases (show e=2∨e=3∨e=4∨e=5∨e=6∨e=7∨e=8∨e=9 by omega) with h|h|h|h|h|h|h|h<;>subst h<;>revert hee<;>clear h97 he h9<;>revert p<;>decide
def bJ (K:PySem.W.Frag):Sp:=λvs H Q _=>∃(d dx:Addr) (p:Int),vs=[.ref d,.int p]∧H d=some (.ins (cq K "Desk") dx [])∧p∈Dr.cm ∧
 ∀kd H',kd≠d→H kd=none→H' d=some (.ins (cq K "Desk") dx [("prime",.int p),("kept",.ref kd)])→H' kd=some (.dK [])→(∀b,b≠d→b≠kd→H' b=H b)→Q .cU H'
theorem Ba (B:Bi mg K w)(Cv:Def P w K mg base "is_prime" 1 ["thing"] (jP K))(F:cD K "__init__" "Desk.__init__" ji f fd):bc P w K mg base cY 2 f fd ["self","p"] (bJ K):=by
 refine F.ok uC (λvs H Q E h=>?_) (λcdv A outer s H vs Q E hr h=>?_)
 ·obtain⟨d,dx,p,rfl,_⟩:=h
  rfl
 obtain⟨d,dx,p,rfl,hd,hp,q⟩:=h
 have S:=uC
 obtain⟨t1,jW⟩:=B.jW
 have p97:=Dr.cy hp
 refine⟨_,((af (bN (PW.pt (jh (i7 (gx (aZ lP rfl B.dq L2.cW (aa (pv 1) (aa (oV (v:=.ty "int") rfl B.x9 L2.uW rfl) ae))))) (jh (aF lF (pv 1) (ee (v:=.int 97) rfl jW ⟨_,rfl⟩) (aQ _)) (jO (i7 (gx (aD Cv hr rfl (aa (pv 1) ae)))))))) (ak ff) aR)
  (af (Et (pv 0) (pv 1) rfl)
  (ak (Et (pv 0) FD rfl))))),?_⟩
 walk_at "p";(try simp only [jP]);try walk_at "dr2"
 rw [if_neg (by omega)]
 refine⟨by omega,λb hb=>?_⟩
 have hb:b=true:=hb.mpr (IT hp)
 subst hb
 rw [if_neg (by decide)]
 walk_at "p";(try simp only [jP]);try walk_at "dr2"
 refine⟨_,_,_,hd,B.d9,B.ng,by decide,?_⟩
 walk_at "q";(try simp only [jP]);try walk_at "dr1"
 intro kd nk
 have ne:kd≠d:=λz=>by rw [z,aS] at nk;cases nk
 rw [aI ne] at nk
 refine⟨_,_,_,by rw [aI (Ne.symm ne)];exact aS,B.d9,B.kX,by show 1<1000;decide,?_⟩
 refine q kd _ ne nk ?_ ?_ ?_
 ·rw [aS]
  exact congrArg some (congrArg (HO.ins _ _) (by rfl))
 ·rw [aI ne,aS]
 ·intro b h1 h2
  rw [aI h1,aI h2,aI h1]
def fN (K:PySem.W.Frag):Sp:=λvs H Q _=>∃(d dx kd:Addr) (fs:List (Str×V)) (kvs:List (Key×V)) (z:Str) (v:V),vs=[.ref d,.str z]∧H d=some (.ins (cq K "Desk") dx fs)∧fs.lookup ("kept":Str)=some (V.ref kd)∧H kd=some (.dK kvs)∧dB kvs (Sum.inr z)=some v∧Q v H
theorem Bk (B:Bi mg K w)(F:cD K "standing" "Desk.standing" ju f fd):bc P w K mg base cY 1 f fd ["self","name"] (fN K):=by
 refine F.ok uL (λvs H Q E h=>?_) (λcdv A outer s H vs Q E hr h=>?_)
 ·obtain⟨d,dx,kd,fs,kvs,z,v,rfl,_⟩:=h
  rfl
 obtain⟨d,dx,kd,fs,kvs,z,v,rfl,hd,hf,hk,hv,q⟩:=h
 have S:=uL
 refine⟨_,((af (bN (vt (Eg (IM hr.units) (pv 1) (oW (pv 0) rfl))) (ak ff) aR)
  (ak (aC (Hw (IM hr.units) (oW (pv 0) rfl) (pv 1) (λ_ _=>rfl)))))),?_⟩
 walk_at "p"
 refine⟨_,_,_,hd,B.d9,B.kX,_,hf,kd,rfl,_,ph.k (k:=Sum.inr z) hk,?_⟩
 rw [hv,if_neg (by intro z;cases z)]
 walk_at "q"
 exact⟨_,_,_,hd,B.d9,B.kX,_,hf,kd,rfl,v,by rw [←hv];exact ph.k (k:=Sum.inr z) hk,q⟩
def fT (K:PySem.W.Frag):Sp:=λvs H Q _=>∃(d dx kd l:Addr) (fs:List (Str×V)) (kvs:List (Key×V)) (z:Str) (ms:List Int),vs=[.ref d,.str z,.ref l]∧H d=some (.ins (cq K "Desk") dx fs)∧fs.lookup ("kept":Str)=some (V.ref kd)∧H kd=some (.dK kvs)∧kvs.length<1000 ∧
 az K H l (ms.map V.int)∧ms.length≤60∧(∀x,x∈ms→x.natAbs<10^60)∧∀H1,aL H H1→Q (.str "ok") (upd H1 kd (.dK (putK kvs (Sum.inr z) (.ref l))))
theorem Hr (B:Bi mg K w)(uc:Def P w K mg base "can_be_written" 2 ["number"] (eX K))(F:cD K "keep" "Desk.keep" o6 f fd):bc P w K mg base cY 3 f fd ["self","name","polynomial"] (fT K):=by
 refine F.ok Ds (λvs H Q E h=>?_) (λcdv A outer s H vs Q E hr h=>?_)
 ·obtain⟨d,dx,kd,l,fs,kvs,z,ms,rfl,_⟩:=h
  rfl
 obtain⟨d,dx,kd,l,fs,kvs,z,ms,rfl,hd,hf,hk,hkl,hS,hl,hb,q⟩:=h
 have S:=Ds
 refine⟨_,((af (bN (i7 (gx (aZ (nP rfl) rfl B.x8 uV (aa (eU [] [] rfl rfl trivial trivial rfl rfl (by decide) (by decide) rfl rfl (by decide) (d3 (pv 2)) (λ_ _ _ _=>dG) (λ_ _ _ _=>(aD uc hr rfl (aa (pv 0) ae)))) ae)))) (ak ff) aR)
  (af (HG (IM hr.units) (oW (pv 0) rfl) (pv 1) (pv 2) rfl)
  (ak (aC bH))))),?_⟩
 walk_at "p";(try simp only [eX]);try walk_at "dr2"
 refine⟨⟨_,hS⟩,?_⟩
 obtain⟨Pv,hPv⟩:∃Pv:Nat→List V→Hp→Prop,∀i ys H',Pv i ys H'↔(H'=H∧ys=(List.replicate i true).map V.bl):=⟨_,λ_ _ _=>Iff.rfl⟩
 (first | refine hX _ _ ?_ | skip);refine r8 ms Pv (Nat.le_trans hl (by decide)) ((hPv _ _ _).mpr ⟨rfl,rfl⟩) (λi ys H2 p=>?_) (λi x ys H2 hx p=>?_) (λys H2 p r n_r=>?_)
 ·obtain⟨rfl,_⟩:=(hPv _ _ _).mp p
  exact hS
 ·obtain⟨rfl,rfl⟩:=(hPv _ _ _).mp p
  walk_at "q";(try simp only [eX]);try walk_at "dr1"
  refine⟨hb x (List.mem_of_getElem? hx),(hPv _ _ _).mpr ⟨rfl,?_⟩⟩
  rw [List.replicate_succ',List.map_append]
  rfl
 obtain⟨rfl,rfl⟩:=(hPv _ _ _).mp p
 refine⟨r,rfl,_,az.of aS,?_⟩
 rw [if_neg (by simp)]
 have g:=eC n_r (o:=HO.lst (List.map V.bl (List.replicate ms.length true)))
 generalize upd H2 r (HO.lst (List.map V.bl (List.replicate ms.length true)))=H3 at g ⊢
 walk_at "p";(try simp only [eX]);try walk_at "dr2"
 refine⟨_,_,_,g _ _ hd,B.d9,B.kX,_,hf,kd,rfl,_,yh.k (k:=Sum.inr z) (g _ _ hk) (Nat.lt_trans hkl (by decide)),?_⟩
 walk_at "q";(try simp only [eX]);try walk_at "dr1"
 exact q _ g
structure fI (K:PySem.W.Frag)(H:Hp)(d dx kd:Addr)(p:Int)(kvs:List (Key×V)):Prop where
 ins:H d=some (.ins (cq K "Desk") dx [("prime",.int p),("kept",.ref kd)])
 kept:H kd=some (.dK kvs)
theorem fI.same {K:PySem.W.Frag}{H H':Hp}{d dx kd:Addr}{p:Int}{kvs:List (Key×V)}(h:fI K H d dx kd p kvs)(g:aL H H'):fI K H' d dx kd p kvs:=⟨g _ _ h.ins,g _ _ h.kept⟩
theorem vY {z:Str}(h:Nm z):32∉z.cps.toList:=λq=>by
 have:=h.all 32 q
 revert this
 decide +kernel
theorem jZ {x:Str}{a b:V}(h1:(x == ("prime":Str))=false)(h2:(x == ("kept":Str))=false):List.lookup x [(("prime":Str),a),(("kept":Str),b)]=none:=by
 simp only [List.lookup,h1,h2]
theorem rC {a b:V}:List.lookup ("kept":Str) [(("prime":Str),a),(("kept":Str),b)]=some b:=by
 have h1:(("kept":Str) == ("prime":Str))=false:=by decide +kernel
 simp only [List.lookup,h1,BEq.rfl]
theorem vh {a b:V}:List.lookup ("prime":Str) [(("prime":Str),a),(("kept":Str),b)]=some a:=by
 simp only [List.lookup,BEq.rfl]
inductive Kd | new | name | fv | depth | number
noncomputable def Kd.txt:Kd→Str
 | .new=>"new"
 | .name=>"name"
 | .fv=>"poly"
 | .depth=>"depth"
 | .number=>"number"
inductive Wd (kvs:List (Key×V)):Kd→Str→Prop
 | new {z:Str}:Nm z→Wd kvs .new z
 | name {z:Str} {v:V}:Nm z→dB kvs (Sum.inr z)=some v→Wd kvs .name z
 | fv {z:Str} {ms:List Int}:z.length≤2000→Tx.fv z=some ms→Wd kvs .fv z
 | depth {z:Str}:Tx.Wr z.cps.toList→(0≤Tx.valOf z.cps.toList∧Tx.valOf z.cps.toList≤60)→Wd kvs .depth z
 | number {z:Str}:Tx.Wr z.cps.toList→Wd kvs .number z
inductive Rs (kvs:List (Key×V))(H H':Hp):Kd→Str→V→Prop
 | new {z:Str}:Rs kvs H H' .new z (.str z)
 | name {z:Str} {v:V}:dB kvs (Sum.inr z)=some v→Rs kvs H H' .name z v
 | fv {z:Str} {ms:List Int} {c:Addr}:Tx.fv z=some ms→H c=none→H' c=some (.lst (ms.map V.int))→Rs kvs H H' .fv z (.ref c)
 | depth {z:Str}:Rs kvs H H' .depth z (.int (Tx.valOf z.cps.toList))
 | number {z:Str}:Rs kvs H H' .number z (.int (Tx.valOf z.cps.toList))
theorem Rs.same {kvs:List (Key×V)}{H0 H H' H2:Hp}{k:Kd}{z:Str}{v:V}(h:Rs kvs H H' k z v)(g0:aL H0 H)(g:aL H' H2):Rs kvs H0 H2 k z v:=by
 cases h with
 | new=>exact .new
 | name e=>exact .name e
 | fv e n k=>exact .fv e (none_of g0 n) (g _ _ k)
 | depth=>exact .depth
 | number=>exact .number
def dI (K:PySem.W.Frag):Sp:=λvs H Q _=>∃(d dx kd:Addr) (p:Int) (kvs:List (Key×V)) (k:Kd) (z:Str),vs=[.ref d,.str k.txt,.str z]∧fI K H d dx kd p kvs∧Wd kvs k z∧∀v H',aL H H'→Rs kvs H H' k z v→Q v H'
theorem Bl (B:Bi mg K w)(iq:Def P w K mg base "read_number" 3 ["text"] (cz K))(AZ:Def P w K mg base "read_poly" 4 ["text"] (fX K))(tP:Def P w K mg base "read_name" 2 ["word"] (fW K))(yE:Def P w K mg base "read_depth" 4 ["word"] (fH K))(Cw:Met P w K mg base cY (cq K "Desk") "standing" 1 ["self","name"] (fN K))(F:cD K "thing_of" "Desk.thing_of" jv f fd):bc P w K mg base cY 5 f fd ["self","wanted","word"] (dI K):=by
 refine F.ok uM (λvs H Q E h=>?_) (λcdv A outer s H vs Q E hr h=>?_)
 ·obtain⟨d,dx,kd,p,kvs,k,z,rfl,_⟩:=h
  rfl
 obtain⟨d,dx,kd,p,kvs,k,z,rfl,hd,t,q⟩:=h
 have S:=uM
 refine⟨_,((af (bN (aF cP (pv 1) bH (aQ _)) (ak (aC (aD tP hr rfl (aa (pv 2) ae)))) aR)
  (af (bN (aF cP (pv 1) bH (aQ _)) (ak (aC (nq vo B.d9 Cw hr (pv 0) (aa (aD tP hr rfl (aa (pv 2) ae)) ae)))) aR)
  (af (bN (aF cP (pv 1) bH (aQ _)) (ak (aC (aD AZ hr rfl (aa (pv 2) ae)))) aR)
  (af (bN (aF cP (pv 1) bH (aQ _)) (ak (aC (aD yE hr rfl (aa (pv 2) ae)))) aR)
  (ak (aC (aD iq hr rfl (aa (pv 2) ae))))))))),?_⟩
 cases t with
 | new hn=>
  dsimp only [Kd.txt]
  walk_at "q";(try simp only [cz,fX,fW,fH,fN]);try walk_at "dr1"
  exact⟨hn,λH' g=>q _ H' g .new⟩
 | name hn hv=>
  dsimp only [Kd.txt]
  walk_at "q";(try simp only [cz,fX,fW,fH,fN]);try walk_at "dr1"
  rw [if_neg (by decide +kernel)]
  exact⟨_,_,hd.ins,jZ (by decide +kernel) (by decide +kernel),hn,λH' g=>⟨_,_,_,g _ _ hd.ins,rC,_,g _ _ hd.kept,_,hv,q _ H' g (.name hv)⟩⟩
 | fv hz hp=>
  dsimp only [Kd.txt]
  walk_at "q";(try simp only [cz,fX,fW,fH,fN]);try walk_at "dr1"
  rw [if_neg (by decide +kernel),if_neg (by decide +kernel)]
  exact⟨hz,_,hp,λc H' g nc kc=>q _ H' g (.fv hp nc kc)⟩
 | depth hw hb=>
  dsimp only [Kd.txt]
  walk_at "q";(try simp only [cz,fX,fW,fH,fN]);try walk_at "dr1"
  rw [if_neg (by decide +kernel),if_neg (by decide +kernel),if_neg (by decide +kernel)]
  exact⟨hw,hb.1,hb.2,λH' g=>q _ H' g .depth⟩
 | number hw=>
  dsimp only [Kd.txt]
  walk_at "q";(try simp only [cz,fX,fW,fH,fN]);try walk_at "dr1"
  rw [if_neg (by decide +kernel),if_neg (by decide +kernel),if_neg (by decide +kernel),if_neg (by decide +kernel)]
  exact⟨hw,λH' g=>q _ H' g .number⟩
theorem mx {a b:Int}{m n:Nat}(ha:Dr.Sm a m)(hb:Dr.Sm b n)(h:m+n≤134217728):IntMulOk a b:=PyProof.Rows.mulOk_of_bits (PyProof.Rows.intBits_le ha) (PyProof.Rows.intBits_le hb) h
theorem fM {a:Int}{k:Nat}(B:Int)(h:-B≤a∧a≤B)(hB:B.natAbs<2^k):Dr.Sm a k:=by
 unfold Dr.Sm
 omega
theorem zQ (n:Nat):(List.replicate n [V.int 0]).flatten=(List.replicate n (0:Int)).map V.int:=by
 induction n with
 | zero=>rfl
 | succ n ih=>simp [List.replicate_succ,ih]
theorem IU {n:Nat}{k:Int}(h0:0≤k)(h1:k<(n:Int)):qp n k=some k.toNat:=by
 unfold qp
 simp only [h0,if_true,if_pos]
 rw [if_pos (by omega)]
theorem vU {fs:List Int}{k:Int}(h0:0≤k)(h1:k<(fs.length:Int)):∃v,fs[k.toNat]?=some v∧iX (fs.map V.int) k=some (.int v)∧qp (fs.map V.int).length k=some k.toNat∧(fs.map V.int)[k.toNat]?=some (.int v):=by
 have hk:k.toNat<fs.length:=by omega
 have e:fs[k.toNat]?=some fs[k.toNat]:=List.getElem?_eq_getElem hk
 refine⟨fs[k.toNat],e,?_,IU h0 (by rw [List.length_map];exact h1),by rw [List.getElem?_map,e];rfl⟩
 rw [ub h0 h1,List.getD_eq_getElem?_getD,e]
 rfl
theorem set_int (fs:List Int)(k:Nat)(v:Int):(fs.map V.int).set k (.int v)=(fs.set k v).map V.int:=by rw [List.map_set]
theorem mem_set {fs:List Int}{k:Nat}{v c:Int}(h:c∈fs.set k v):c∈fs∨c=v:=List.mem_or_eq_of_mem_set h
theorem steps {i T:Nat}{v n:Int}(h:v.natAbs≤i*T)(h':n.natAbs≤T):(v+n).natAbs≤(i+1)*T:=by
 rw [Nat.succ_mul]
 omega
theorem E2 {xs:List Int}{d:Int}(h:xs.getLast?=some d):iX (xs.map V.int) (-1)=some (.int d):=by
 cases xs with
 | nil=>simp at h
 | cons x ms=>
  have hh:ms.length<(x::ms).length:=by simp
  have e:(x::ms)[ms.length]?=some d:=by
   rw [List.getLast?_eq_getElem?] at h
   simpa using h
  unfold iX qp
  have e1:¬(0:Int)≤-1:=by decide
  have e2:-(((x::ms).map V.int).length:Int)≤-1:=by
   simp only [List.length_map,List.length_cons]
   omega
  have e3:(-1+(((x::ms).map V.int).length:Int)).toNat=ms.length:=by
   simp only [List.length_map,List.length_cons]
   omega
  rw [if_neg e1,if_pos e2,e3]
  show ((x::ms).map V.int)[ms.length]?=_
  rw [List.getElem?_map,e]
  rfl
def bA (K:PySem.W.Frag):Sp:=λvs H Q _=>∃(a:Addr) (f:List Int) (x:Int) (m n:Nat),vs=[.ref a,.int x]∧az K H a (f.map V.int)∧f.length≤100∧Dr.bX f m∧Dr.Sm x n∧(m≤1000000∧n≤100000)∧Q (.int (Dr.aA f x)) H
theorem Bn (B:Bi mg K w)(F:cD K "worth_at" "worth_at" jx f fd):bc P w K mg base cY 1 f fd ["f","x"] (bA K):=by
 refine F.ok uO (λvs H Q E h=>?_) (λcdv A outer s H vs Q E hr h=>?_)
 ·obtain⟨a,f,x,m,n,rfl,_⟩:=h
  rfl
 obtain⟨a,f,x,m,n,rfl,hS,hl,hf,hx,hmn,q⟩:=h
 have S:=uO
 refine⟨_,((af (aB (i:=2) S.nd rfl (Or.inl rfl) ag)
  (af (fK PassesOwn.never rfl (Eo rfl B.uT (pv 0)) (cI (i:=3) S.nd rfl (Or.inl rfl)) (ak (aB (i:=2) S.nd rfl (Or.inl rfl) (av cS (av cA (pv 2) (pv 1)) (pv 3)))))
  (ak (aC (pv 2)))))),?_⟩
 try walk_at "dr1"
 refine⟨_,hS,?_⟩
 obtain⟨Pv,hPv⟩:∃Pv:Nat→St→Hp→Prop,∀i σ H2,Pv i σ H2↔(H2=H∧∃t,σ=[some (.ref a),some (.int x),some (.int (Dr.aA (f.drop (f.length-i)) x)),t]):=⟨_,λ_ _ _=>Iff.rfl⟩
 refine IK f Pv (by rw [List.length_map]) ((hPv _ _ _).mpr ⟨rfl,none,by simp [Dr.aA]⟩) (λi σ H2 z=>by obtain⟨rfl,_⟩:=(hPv _ _ _).mp z;exact hS) ?_ ?_
 ·intro i c σ H2 hc z
  obtain⟨rfl,t,rfl⟩:=(hPv _ _ _).mp z
  try walk_at "dr1"
  have b:=(hx.aA (hf.drop (f.length-i))).mono (l:=1000000+100*100001) (by
   have h1:(f.drop (f.length-i)).length≤100:=by rw [List.length_drop];omega
   have h2:(f.drop (f.length-i)).length*(n+1)≤100*100001:=Nat.mul_le_mul h1 (by omega)
   omega)
  refine⟨mx b hx (by omega),(hPv _ _ _).mpr ⟨rfl,some (.int c),?_⟩⟩
  rw [Dr.HA hc]
 ·intro σ H2 z
  obtain⟨rfl,t,rfl⟩:=(hPv _ _ _).mp z
  try walk_at "dr1"
  rw [Nat.sub_self,List.drop_zero]
  exact q
def dh (_:PySem.W.Frag):Sp:=λvs H Q _=>∃(p x:Int),vs=[.int p,.int x]∧(2≤p∧p<1000)∧x≠0∧∀(d:Nat) (u:Int),Dr.hV p x d u→Q (.int (d:Int)) H
def uQ (p x:Int)(H:Hp)(m:Nat)(σ:St)(H':Hp):Prop:=H'=H∧∃(l:Int) (d:Nat),σ=[some (.int p),some (.int x),some (.int (d:Int)),some (.int l)]∧x=l*p^d∧l≠0∧m=l.natAbs
theorem Dk {p x l:Int}{d:Nat}(hp:2≤p)(e:x=l*p^d)(l0:l≠0)(c:l%p=0):x=l/p*p^(d+1)∧l/p≠0∧(l/p).natAbs<l.natAbs:=by
 have e1:l=p*(l/p):=by have:=Int.mul_ediv_add_emod l p;omega
 have n0:l/p≠0:=λz=>by rw [z] at e1;simp at e1;exact l0 e1
 refine⟨?_,n0,?_⟩
 ·rw [Int.pow_succ,e]
  calc l*p^d=p*(l/p)*p^d:=by rw [←e1]
   _=l/p*(p^d*p):=by rw [Int.mul_comm p,Int.mul_assoc,Int.mul_comm p]
 ·have e2:l.natAbs=p.natAbs*(l/p).natAbs:=by rw [←Int.natAbs_mul,←e1]
  have l1:2*(l/p).natAbs≤p.natAbs*(l/p).natAbs:=Nat.mul_le_mul_right _ (by omega)
  omega
theorem Bf (B:Bi mg K w)(F:cD K "depth_of" "depth_of" jo f fd):bc P w K mg base cY 1 f fd ["p","x"] (dh K):=by
 refine F.ok uH (λvs H Q E h=>?_) (λcdv A outer s H vs Q E hr h=>?_)
 ·obtain⟨p,x,rfl,_⟩:=h
  rfl
 obtain⟨p,x,rfl,hp,hx,q⟩:=h
 have S:=uH
 refine⟨_,((af (bN (aF cP (pv 1) ag (aQ _)) (ak ff) aR)
  (af (aB (i:=2) S.nd rfl (Or.inl rfl) ag)
  (af (aB (i:=3) S.nd rfl (Or.inl rfl) (pv 1))
  (af (ll PassesOwn.never (aF cP (av cp (pv 3) (pv 0)) ag (aQ _)) (af (aB (i:=3) S.nd rfl (Or.inl rfl) (av eD (pv 3) (pv 0)))
  (ak (zJ (i:=2) S.nd rfl (Or.inl rfl) ag rp))))
  (ak (aC (pv 2)))))))),?_⟩
 refine⟨_,rfl,rfl,_,rfl,?_⟩
 refine cG (λc=>absurd (V.int.inj (of_decide_eq_true c)) hx) (λ_=>?_)
 refine⟨_,rfl,?_⟩
 refine⟨uQ p x H,⟨_,rfl,x,0,rfl,by simp,hx,rfl⟩,?_⟩
 rintro m σ H' ⟨rfl,l,d,rfl,e,l0,rfl⟩
 refine⟨_,rfl,_,rfl,_,_,rfl,rfl,(show (0:Int)<p by omega),rfl,_,rfl,?_⟩
 refine cG (λc=>?_) (λc=>?_)
 ·have c':l%p=0:=V.int.inj (of_decide_eq_true c)
  obtain⟨t1,t2,t3⟩:=Dk hp.1 e l0 c'
  refine⟨λσ' H2=>∃m',m'<l.natAbs∧uQ p x H' m' σ' H2,λ_ _ h=>h,?_⟩
  refine⟨_,rfl,_,rfl,_,_,rfl,rfl,nV hp,?_⟩
  exact⟨_,rfl,_,_,rfl,rfl,_,t3,rfl,l/p,d+1,rfl,t1,t2,rfl⟩
 ·have c':l%p≠0:=λz=>c (decide_eq_true (congrArg V.int z))
  exact⟨_,rfl,q d l ⟨e,c'⟩⟩
def gc (_:PySem.W.Frag):Sp:=λvs H Q _=>∃(p x:Int),vs=[.int p,.int x]∧p∈Dr.cm∧x%p≠0∧∀(y:Int) (H':Hp),1≤y∧y<p→x*y%p=1→aL H H'→Q (.int y) H'
theorem qD (B:Bi mg K w)(F:cD K "inverse_by_prime" "inverse_by_prime" eG f fd):bc P w K mg base cY 1 f fd ["p","x"] (gc K):=by
 refine F.ok lM (λvs H Q E h=>?_) (λcdv A outer s H vs Q E hr h=>?_)
 ·obtain⟨p,x,rfl,_⟩:=h
  rfl
 obtain⟨p,x,rfl,hp,hx,q⟩:=h
 have S:=lM
 have p2:=Dr.cy hp
 have hpp:2≤p∧p<1000:=by omega
 refine⟨_,((af (BW [0,1] ["p","x"] rfl S.nd (k:=2) rfl rfl rfl rfl ⟨rfl,rfl,trivial⟩ ⟨rfl,rfl,rfl,rfl,rfl,rfl,rfl,rfl,trivial⟩ rfl rfl (by decide) (by decide) rfl rfl (by decide) (nX rfl B.fO (aa ag (aa (pv 0) ae))) (λ_ _ _ _=>(wa (aF cP (av cp (av cA (pv 2) (pv 0)) (pv 1)) ag (aQ _)))) (λ_ _ _ _=>(pv 0)))
  (ak (aC (ba bK (pv 2) ag (λ_ _=>rfl)))))),?_⟩
 try walk_at "dr1"
 repeat (refine And.intro (by first | omega | exact⟨by decide,by decide⟩ | decide | assumption | exact nV (by assumption) | exact Dr.pow_pos (by omega) _ | exact IntMulOk.of_left (by decide) | exact r6 (by assumption) (by omega) | exact vx (by assumption) (by decide) | exact vx (r6 (by assumption) (by omega)) (by decide)) ?_)
 obtain⟨Pv,hPv⟩:∃Pv:Nat→List V→Hp→Prop,∀i ys H',Pv i ys H'↔(H'=H∧∃zs:List Int,ys=zs.map V.int∧(∀z,z∈zs→(1≤z∧z<p)∧x*z%p=1)∧(∀y:Int,1≤y→y<1+i→x*y%p=1→zs≠[])):=⟨_,λ_ _ _=>Iff.rfl⟩
 refine yb Pv (by unfold sizeLine;omega) ((hPv _ _ _).mpr ⟨rfl,[],rfl,by simp,λy h1 h2=>by omega⟩) ?_ ?_
 ·intro i ys H' hi zz
  obtain⟨rfl,zs,rfl,h1,h2⟩:=(hPv _ _ _).mp zz
  try walk_at "dr1"
  refine⟨IntMulOk.of_right (intBits_le_64 (by omega) (by omega)),by omega,cG (λc=>?_) (λc=>?_)⟩
  ·refine (hPv _ _ _).mpr ⟨rfl,zs++[1+(i:Int)],by simp,λz hz=>?_,λy _ _ _=>by simp⟩
   rcases List.mem_append.mp hz with w|w
   ·exact h1 z w
   ·rw [List.mem_singleton.mp w]
    exact⟨by omega,c⟩
  ·refine (hPv _ _ _).mpr ⟨rfl,zs,rfl,h1,λy y1 y2 y3=>?_⟩
   by_cases w:y=1+(i:Int)
   ·rw [w] at y3
    exact absurd y3 c
   ·exact h2 y y1 (by omega) y3
 ·intro ys H' zz
  obtain⟨rfl,zs,rfl,h1,h2⟩:=(hPv _ _ _).mp zz
  intro l n_l;generalize e0:upd _ l _=H1;obtain⟨g1,k1⟩:=cL e0 n_l;clear e0
  obtain⟨y,y1,y2,y3⟩:=Dr.DW hp hx
  have hne:=h2 y y1 (by omega) y3
  cases zs with
  | nil=>exact absurd rfl hne
  | cons z zs=>
   try walk_at "dr1"
   refine⟨_,az.of k1,_,aM (j:=0) rfl,?_⟩
   obtain⟨a1,a2⟩:=h1 z (List.mem_cons_self ..)
   exact q z H1 a1 a2 g1
theorem Cm {p:Int}(hp:2≤p∧p<1000){x:Int}(n:Nat)(h0:0≤x)(h:x<p^n):Builtin.Int.intBits x≤10*n+1:=PyProof.Rows.intBits_le (by
 have:=i6 hp n
 have:=Dr.pow_pos hp.1 n
 omega)
def dW (_:PySem.W.Frag):Sp:=λvs H Q _=>∃(p e x:Int),vs=[.int p,.int e,.int x]∧p∈Dr.cm∧(0≤e∧e<1000)∧Builtin.Int.intBits x≤2^22∧(e=0∨x%p≠0)∧∀(y:Int) (H':Hp),Dr.Ci p x y e.toNat→aL H H'→Q (.int y) H'
theorem xG (B:Bi mg K w)(bZ:Def P w K mg base "power_of" 1 ["p","e"] (aw K))(q9:Def P w K mg base "inverse_by_prime" 1 ["p","x"] (gc K))(F:cD K "inverse_of" "inverse_of" gP f fd):bc P w K mg base cY 2 f fd ["p","e","x"] (dW K):=by
 refine F.ok qK (λvs H Q E h=>?_) (λcdv A outer s H vs Q E hr h=>?_)
 ·obtain⟨p,e,x,rfl,_⟩:=h
  rfl
 obtain⟨p,e,x,rfl,hp,he,hb,hx,q⟩:=h
 have S:=qK
 have p2:=Dr.cy hp
 have hpp:2≤p∧p<1000:=by omega
 refine⟨_,((af (bN (aF cP (pv 1) ag (aQ _)) (ak (aC ag)) aR)
  (af (bN (aF cP (av cp (pv 2) (pv 0)) ag (aQ _)) (ak ff) aR)
  (af (aB (i:=3) S.nd rfl (Or.inl rfl) (aD bZ hr rfl (aa (pv 0) (aa (pv 1) ae))))
  (af (aB (i:=4) S.nd rfl (Or.inl rfl) (aD q9 hr rfl (aa (pv 0) (aa (pv 2) ae))))
  (af (aB (i:=5) S.nd rfl (Or.inl rfl) ag)
  (af (ll PassesOwn.never (aF kz (pv 5) (pv 1) (aQ _)) (af (aB (i:=4) S.nd rfl (Or.inl rfl) (av cp (av cA (pv 4) (av ft ag (av cA (pv 2) (pv 4)))) (pv 3)))
  (ak (aB (i:=5) S.nd rfl (Or.inl rfl) (av cA (pv 5) ag)))))
  (ak (aC (pv 4)))))))))),?_⟩
 try walk_at "dr1";(try simp only [aw,gc]);try walk_at "dr1"
 refine cG (λc=>?_) (λc=>?_)
 ·refine q 0 H ?_ (aL.refl H)
  rw [c]
  exact Dr.Ci.zero p x
 have hx':x%p≠0:=by
  rcases hx with z|z
  ·exact absurd z c
  ·exact z
 refine⟨by omega,cG (λd=>absurd d hx') (λd=>?_)⟩
 repeat (refine And.intro (by first | omega | exact⟨by decide,by decide⟩ | decide | assumption | exact nV (by assumption) | exact Dr.pow_pos (by omega) _ | exact IntMulOk.of_left (by decide) | exact r6 (by assumption) (by omega) | exact vx (by assumption) (by decide) | exact vx (r6 (by assumption) (by omega)) (by decide)) ?_)
 intro y H1 y1 y2 g1
 have e1:1≤e.toNat:=by omega
 have hpe:p≤p^e.toNat:=by
  have:p^1≤p^e.toNat:=by
   obtain⟨k,hk⟩:∃k,e.toNat=1+k:=⟨e.toNat-1,by omega⟩
   rw [hk,Dr.pow_add']
   have:=Dr.pow_pos hpp.1 k
   have h2:0<p^1:=Dr.pow_pos hpp.1 1
   have:=Int.mul_le_mul_of_nonneg_left (show 1≤p^k by omega) (show 0≤p^1 by omega)
   omega
  rwa [Int.pow_succ,Int.pow_zero,Int.one_mul] at this
 obtain⟨W,hW⟩:∃W:Nat→St→Hp→Prop,∀m σ H2,W m σ H2↔(H2=H1∧∃(y:Int) (r:Nat),σ=[some (.int p),some (.int e),some (.int x),some (.int (p^e.toNat)),some (.int y),some (.int (r:Int))]∧1≤r∧0≤y∧y<p^e.toNat∧(x*y-1)%p^(min r e.toNat)=0∧m=e.toNat-r):=⟨_,λ_ _ _=>Iff.rfl⟩
 refine EU W (e.toNat-1) ((hW _ _ _).mpr ⟨rfl,y,1,rfl,by omega,by omega,by omega,?_,rfl⟩) ?_
 ·rw [Nat.min_eq_left e1,Int.pow_succ,Int.pow_zero,Int.one_mul]
  rw [Int.sub_emod,y2]
  simp
 ·intro m σ H2 z
  obtain⟨rfl,y,r,rfl,r1,z1,z2,z3,rfl⟩:=(hW _ _ _).mp z
  try walk_at "dr1";(try simp only [aw,gc]);try walk_at "dr1"
  refine cG (λc=>?_) (λc=>?_)
  ·refine⟨_,λ_ _ h=>h,?_⟩
   have by':Builtin.Int.intBits y≤10*e.toNat+1:=Cm hpp _ z1 z2
   have b1:IntMulOk x y:=PyProof.Rows.mulOk_of_bits hb by' (by omega)
   have b2:Builtin.Int.intBits (x*y)≤2^22+(10*e.toNat+1):=PySem.intBits_mul_le hb by'
   have b3:Builtin.Int.intBits (2-x*y)≤2^22+(10*e.toNat+1)+1:=Nat.le_trans (PySem.intBits_sub_le (m:=2^22+(10*e.toNat+1)) (Nat.le_trans (show Builtin.Int.intBits 2≤64 by decide) (by omega)) b2) (by omega)
   have b4:IntMulOk y (2-x*y):=PyProof.Rows.mulOk_of_bits by' b3 (by omega)
   have hpos:=Dr.pow_pos hpp.1 e.toNat
   refine⟨b1,b4,hpos,IntMulOk.of_right (by decide),e.toNat-r*2,by omega,(hW _ _ _).mpr ⟨rfl,y*(2-x*y)%p^e.toNat,r*2,by simp,by omega,Int.emod_nonneg _ (by omega),Int.emod_lt_of_pos _ hpos,Dr.Fn z3,rfl⟩⟩
  ·have hr:min r e.toNat=e.toNat:=by omega
   rw [hr] at z3
   exact q y H2 ⟨z1,z2,z3⟩ g1
def fw (K:PySem.W.Frag):Sp:=λvs H Q _=>∃(a:Addr) (f:List Int),vs=[.ref a]∧az K H a (f.map V.int)∧∀(d:Int) (H':Hp),Dr.j9 f d→aL H H'→Q (.int d) H'
theorem zo (B:Bi mg K w)(F:cD K "degree_of" "degree_of" iA f fd):bc P w K mg base cY 1 f fd ["f"] (fw K):=by
 refine F.ok tq (λvs H Q E h=>?_) (λcdv A outer s H vs Q E hr h=>?_)
 ·obtain⟨a,f,rfl,_⟩:=h
  rfl
 obtain⟨a,f,rfl,hS,q⟩:=h
 have S:=tq
 refine⟨_,((af (aB (i:=1) S.nd rfl (Or.inl rfl) (mB kG ag))
  (af (fK PassesOwn.never rfl (sH rfl B.lC (pv 0)) (rL rfl (d8 (cI (i:=2) S.nd rfl (Or.inl rfl)) (d8 (cI (i:=3) S.nd rfl (Or.inl rfl)) kZ))) (ak (bN (aF my (pv 3) ag (aQ _)) (ak (aB (i:=1) S.nd rfl (Or.inl rfl) (pv 2))) aR)))
  (ak (aC (pv 1)))))),?_⟩
 try walk_at "dr1"
 refine⟨⟨_,hS⟩,?_⟩
 obtain⟨Pv,hPv⟩:∃Pv:Nat→St→Hp→Prop,∀i σ H2,Pv i σ H2↔(aL H H2∧∃(d:Int) (t2 t3:Option V),Dr.j9 (f.take i) d∧σ=[some (.ref a),some (.int d),t2,t3]):=⟨_,λ_ _ _=>Iff.rfl⟩
 refine Ff f Pv ((hPv _ _ _).mpr ⟨aL.refl _,-1,none,none,by simpa using Dr.j9.nil,rfl⟩) (λi σ H2 z=>by obtain⟨g,_⟩:=(hPv _ _ _).mp z;exact g.seq hS) ?_ ?_
 ·intro i c σ H2 t H3 hc z g3 ht
  obtain⟨g2,d,t2,t3,hd,rfl⟩:=(hPv _ _ _).mp z
  try walk_at "dr1"
  refine⟨_,dC.of ht,rfl,_,_,rfl,?_⟩
  refine⟨_,_,rfl,rfl,rfl,?_⟩
  simp only [V.int.injEq]
  have g:=g2.trans g3
  have hd':=hd.take_succ hc
  refine cG (λc0=>?_) (λc0=>?_)
  ·rw [if_pos c0] at hd'
   exact (hPv _ _ _).mpr ⟨g,_,_,_,hd',rfl⟩
  ·rw [if_neg c0] at hd'
   exact (hPv _ _ _).mpr ⟨g,_,_,_,hd',rfl⟩
 ·intro σ H2 z
  obtain⟨g2,d,t2,t3,hd,rfl⟩:=(hPv _ _ _).mp z
  try walk_at "dr1"
  rw [List.take_length] at hd
  exact q d H2 hd g2
def de (K:PySem.W.Frag):Sp:=λvs H Q _=>∃(a b:Addr) (f g:List Int) (m n:Nat),vs=[.ref a,.ref b]∧az K H a (f.map V.int)∧az K H b (g.map V.int)∧(0<f.length∧f.length≤60∧0<g.length∧g.length≤60)∧Dr.bX f m∧Dr.bX g n∧(m≤1000000∧n≤1000000) ∧
 ∀(c:Addr) (r:List Int) (H':Hp),Dr.yi f g r→Dr.bX r (m+n+12)→H c=none→aL H H'→H' c=some (.lst (r.map V.int))→Q (.ref c) H'
theorem vj (B:Bi mg K w)(F:cD K "poly_product" "poly_product" fQ f fd):bc P w K mg base cY 1 f fd ["f","g"] (de K):=by
 refine F.ok oG (λvs H Q E h=>?_) (λcdv A outer s H vs Q E hr h=>?_)
 ·obtain⟨a,b,f,g,m,n,rfl,_⟩:=h
  rfl
 obtain⟨a,b,f,g,m,n,rfl,hS,hS',hl,hf,hg,hmn,q⟩:=h
 have S:=oG
 refine⟨_,((af (aB (i:=2) S.nd rfl (Or.inl rfl) (av Ee (dS (aa ag ae)) (av ft (av cS (aZ cv rfl B.eI PySem.boot_len (aa (pv 0) ae)) (aZ cv rfl B.eI PySem.boot_len (aa (pv 1) ae))) ag)))
  (af (fK PassesOwn.never rfl (sH rfl B.lC (pv 0)) (rL rfl (d8 (cI (i:=3) S.nd rfl (Or.inl rfl)) (d8 (cI (i:=4) S.nd rfl (Or.inl rfl)) kZ))) (ak (fK PassesOwn.never rfl (sH rfl B.lC (pv 1)) (rL rfl (d8 (cI (i:=5) S.nd rfl (Or.inl rfl)) (d8 (cI (i:=6) S.nd rfl (Or.inl rfl)) kZ))) (ak (BV (pv 2) (av cS (pv 3) (pv 5)) yO (av cA (pv 4) (pv 6)) rp set_list)))))
  (ak (aC (pv 2)))))),?_⟩
 try walk_at "dr1"
 refine⟨by decide,?_⟩
 intro l0 n_l0;generalize e0:upd _ l0 _=H1;obtain⟨g1,k1⟩:=cL e0 n_l0;clear e0
 refine⟨_,.inl (g1.seq hS),_,.inl (g1.seq hS'),?_⟩
 simp only [List.length_map]
 refine⟨_,k1,by (try clear hmn k1 n_l0);omega,by (try clear hmn k1 n_l0);omega,by simp only [List.length_cons,List.length_nil];unfold sizeLine;((try clear hmn k1 n_l0);omega),?_⟩
 intro l n_l;generalize e0:upd _ l _=H2;obtain⟨g2,k2⟩:=cL e0 n_l;clear e0
 rw [zQ] at k2
 have g12:=g1.trans g2
 have nl:H l=none:=g1.free n_l
 refine⟨⟨_,g12.seq hS⟩,?_⟩
 obtain⟨M,hM⟩:∃M:Nat,M=2^(m+n):=⟨_,rfl⟩
 obtain⟨Pv,hPv⟩:∃Pv:Nat→St→Hp→Prop,∀i σ H3,Pv i σ H3↔(aL H H3∧∃(r:List Int) (t3 t4 t5 t6:Option V),r.length+1=f.length+g.length∧(∀c,c∈r→c.natAbs≤i*g.length*M)∧(∀x,Dr.aA r x=Dr.aA (f.take i) x*Dr.aA g x)∧H3 l=some (.lst (r.map V.int))∧σ=[some (.ref a),some (.ref b),some (.ref l),t3,t4,t5,t6]):=⟨_,λ_ _ _=>Iff.rfl⟩
 refine Ff f Pv ((hPv _ _ _).mpr ⟨g12,_,none,none,none,none,by rw [List.length_replicate];((try clear hM hmn k1 k2 n_l n_l0 nl);omega),λc hc=>by rw [(List.mem_replicate.mp hc).2];simp,λx=>by rw [Dr.nW];simp [Dr.aA],k2,rfl⟩) (λi σ H3 z=>by obtain⟨g,_⟩:=(hPv _ _ _).mp z;exact g.seq hS) ?_ ?_
 ·intro i c σ H3 t H4 hc z g4 ht
  obtain⟨g3,r,t3,t4,t5,t6,hrl,hrb,hre,k3,rfl⟩:=(hPv _ _ _).mp z
  have k4:=g4 _ _ k3
  have hi:=(List.getElem?_eq_some_iff.mp hc).1
  have G4:=g3.trans g4
  try walk_at "dr1"
  refine⟨_,dC.of ht,rfl,_,_,rfl,_,_,rfl,rfl,?_⟩
  try try walk_at "dr1"
  refine⟨⟨_,G4.seq hS'⟩,?_⟩
  obtain⟨Pw,hPw⟩:∃Pw:Nat→St→Hp→Prop,∀j σ H5,Pw j σ H5↔(aL H H5∧∃(r:List Int) (t5 t6:Option V),r.length+1=f.length+g.length∧(∀c,c∈r→c.natAbs≤(i*g.length+j)*M)∧(∀x,Dr.aA r x=Dr.aA (f.take i) x*Dr.aA g x+c*x^i*Dr.aA (g.take j) x)∧H5 l=some (.lst (r.map V.int))∧σ=[some (.ref a),some (.ref b),some (.ref l),some (.int (i:Int)),some (.int c),t5,t6]):=⟨_,λ_ _ _=>Iff.rfl⟩
  refine Ff g Pw ((hPw _ _ _).mpr ⟨G4,r,t5,t6,hrl,hrb,λx=>by rw [hre];simp [Dr.aA],k4,rfl⟩) (λi σ H3 z=>by obtain⟨g,_⟩:=(hPw _ _ _).mp z;exact g.seq hS') ?_ ?_
  ·intro j d σ H5 t H6 hd z g6 ht
   obtain⟨g5,r,t5,t6,hrl,hrb,hre,k5,rfl⟩:=(hPw _ _ _).mp z
   have k6:=g6 _ _ k5
   have hj:=(List.getElem?_eq_some_iff.mp hd).1
   try walk_at "dr1"
   refine⟨_,dC.of ht,rfl,_,_,rfl,_,_,rfl,rfl,?_⟩
   try try walk_at "dr1"
   obtain⟨v,e1,_,e3,e4⟩:=vU (fs:=r) (k:=(i:Int)+(j:Int)) (by (try clear hM hc hd hi hj hl hmn hrl ht k1 k2 k3 k4 k5 k6 n_l n_l0 nl);omega) (by (try clear hM hc hd hl hmn ht k1 k2 k3 k4 k5 k6 n_l n_l0 nl);omega)
   have hcd:(c*d).natAbs≤M:=by
    rw [hM]
    exact Nat.le_of_lt ((hf c (List.mem_of_getElem? hc)).mul (hg d (List.mem_of_getElem? hd)))
   refine⟨by (try clear e1 e3 e4 hM hc hcd hd hi hj hl hmn hrl ht k1 k2 k3 k4 k5 k6 n_l n_l0 nl);omega,_,az.of k6,_,e4,mx (hf c (List.mem_of_getElem? hc)) (hg d (List.mem_of_getElem? hd)) (by (try clear e1 e3 e4 hM hc hcd hd hi hj hl hrl ht k1 k2 k3 k4 k5 k6 n_l n_l0 nl);omega),v,rfl,_,k6,_,e3,?_⟩
   rw [set_int]
   have eij:((i:Int)+(j:Int)).toNat=i+j:=by ((try clear e1 e3 e4 hM hc hcd hd hi hj hl hmn hrl ht k1 k2 k3 k4 k5 k6 n_l n_l0 nl);omega)
   rw [eij] at e1 ⊢
   refine (hPw _ _ _).mpr ⟨(g5.trans g6).up nl _,_,_,_,by rw [List.length_set];exact hrl,λe he=>?_,λx=>?_,aS,rfl⟩
   ·rcases mem_set he with w|w
    ·exact Nat.le_trans (hrb e w) (Nat.mul_le_mul_right _ (Nat.le_succ _))
    ·rw [w]
     exact steps (hrb v (List.mem_of_getElem? e1)) hcd
   ·rw [Dr.sG x (c*d) r (i+j) v e1,hre,Dr.jR hd,Dr.pow_add']
    generalize x^i=X
    generalize x^j=Y
    grind
  ·intro σ H5 z
   obtain⟨g5,r,t5,t6,hrl,hrb,hre,k5,rfl⟩:=(hPw _ _ _).mp z
   refine (hPv _ _ _).mpr ⟨g5,r,_,_,_,_,hrl,λc hc=>?_,λx=>?_,k5,rfl⟩
   ·rw [Nat.succ_mul]
    exact hrb c hc
   ·rw [hre,List.take_length,Dr.jR hc]
    grind
 ·intro σ H3 z
  obtain⟨g3,r,t3,t4,t5,t6,hrl,hrb,hre,k3,rfl⟩:=(hPv _ _ _).mp z
  try walk_at "dr1"
  rw [List.take_length] at hre
  refine q l r H3 ⟨hrl,hre⟩ (λc hc=>?_) nl g3 k3
  have h1:=hrb c hc
  have h2:f.length*g.length*M≤3600*M:=Nat.mul_le_mul_right _ (Nat.mul_le_mul (show f.length≤60 by ((try clear h1 hM hmn k1 k2 k3 n_l n_l0 nl);omega)) (show g.length≤60 by ((try clear h1 hM hmn hrl k1 k2 k3 n_l n_l0 nl);omega)))
  show c.natAbs<2^(m+n+12)
  rw [Nat.pow_add,←hM]
  have:(2:Nat)^12=4096:=by decide
  have:0<M:=by rw [hM];exact Nat.pow_pos (by decide)
  ((try clear hl hmn hrl k1 k2 k3 n_l n_l0 nl);omega)
theorem yz {K:PySem.W.Frag}{H:Hp}{a:Addr}{f:List Int}{σ:St}{k:Nat}{Q:VK}(hS:az K H a (f.map V.int))(hl:0<f.length∧f.length≤60)(hi:σ[k]?=some (some (.ref a)))(q:∀l,H l=none→Q (.ref l) (upd H l (.lst ((Dr.dm 1 f.tail).map V.int)))) :
    iU (qF 1 ((((f.map V.int).length:Nat):Int)-1).toNat) [k] (λ_ H Q=>Q true H) (n5 (rI IntMulOk λi j=>V.int (i*j)) (jD 0) (n5 (wg K) (jD 1) (jD 0))) σ H Q:=by
  obtain⟨Pc,hPc⟩:∃Pc:Nat→List V→Hp→Prop,∀i ys H1,Pc i ys H1↔(H1=H∧ys=((Dr.dm 1 f.tail).take i).map V.int):=⟨_,λ_ _ _=>Iff.rfl⟩
  refine yb Pc (by simp only [List.length_map];unfold sizeLine;omega) ((hPc _ _ _).mpr ⟨rfl,by simp⟩) ?_ ?_
  · intro i ys H1 hi' z
    obtain⟨rfl,rfl⟩:=(hPc _ _ _).mp z
    simp only [List.length_map] at hi'
    have hi2:i<f.tail.length:=by rw [List.length_tail];omega
    have e0:f.tail[i]?=some f.tail[i]:=List.getElem?_eq_getElem hi2
    have e1:iX (f.map V.int) (1+(i:Int))=some (.int f.tail[i]):=by
      rw [Int.add_comm]
      refine aM (j:=i+1) ?_
      rw [List.getElem?_map]
      have:f[i+1]?=some f.tail[i]:=by
        rw [←e0]
        simp [List.getElem?_tail]
      rw [this]
      rfl
    have e2:=Dr.yI f.tail 1 i _ e0
    simp only [cg,List.map_cons,List.map_nil,hi,Option.getD_some]
    try walk_at "dr1"
    refine⟨_,hS,_,e1,_,rfl,IntMulOk.of_left (intBits_le_64 (by omega) (by omega)),(hPc _ _ _).mpr ⟨rfl,?_⟩⟩
    rw [List.take_add_one,e2,List.map_append]
    rfl
  · intro ys H1 z
    obtain⟨rfl,rfl⟩:=(hPc _ _ _).mp z
    intro l hl'
    have:=q l hl'
    rw [List.take_of_length_le (by rw [Dr.nT,List.length_tail];simp only [List.length_map];omega)]
    exact this
theorem Hb {K:PySem.W.Frag}{H:Hp}{a:Addr}{f:List Int}{rest:St}{Q:VK}(hS:az K H a (f.map V.int))(hl:0<f.length∧f.length≤60)(q:∀l,H l=none→Q (.ref l) (upd H l (.lst ((Dr.dm 1 f.tail).map V.int)))) :
    iU (qF 1 ((((f.map V.int).length:Nat):Int)-1).toNat) [0] (λ_ H Q=>Q true H) (n5 (rI IntMulOk λi j=>V.int (i*j)) (jD 0) (n5 (wg K) (jD 1) (jD 0))) (some (.ref a)::rest) H Q:=yz hS hl rfl q
theorem sL {f:List Int}{m:Nat}(hl:0<f.length∧f.length≤60)(hf:Dr.bX f m):Dr.bX (Dr.d7 f) (m+6):=by
 intro d hd
 match f,hl with
 | [x],_=>
  rw [List.mem_singleton.mp hd]
  exact Dr.Sm.zero _
 | x::y::f,hl=>
  have hd':d∈Dr.dm 1 (y::f):=hd
  obtain⟨i,hi⟩:=List.getElem?_of_mem hd'
  have hi2:i<(y::f).length:=by
   have:=(List.getElem?_eq_some_iff.mp hi).1
   rw [Dr.nT] at this
   exact this
  have e0:(y::f)[i]?=some (y::f)[i]:=List.getElem?_eq_getElem hi2
  rw [Dr.yI (y::f) 1 i _ e0] at hi
  rw [←Option.some.inj hi]
  have h1:Dr.Sm (1+(i:Int)) 6:=fM 60 (by simp only [List.length_cons] at hl hi2;omega) (by decide)
  have h2:=h1.mul (hf _ (List.mem_cons_of_mem _ (List.mem_of_getElem? e0)))
  exact h2.mono (by omega)
def bQ (K:PySem.W.Frag):Sp:=λvs H Q _=>∃(a:Addr) (f:List Int) (m:Nat),vs=[.ref a]∧az K H a (f.map V.int)∧(0<f.length∧f.length≤60)∧Dr.bX f m∧m≤1000000 ∧
 ∀(c:Addr) (H':Hp),Dr.bX (Dr.d7 f) (m+6)→H c=none→aL H H'→H' c=some (.lst ((Dr.d7 f).map V.int))→Q (.ref c) H'
theorem Bj (B:Bi mg K w)(F:cD K "slope_of" "slope_of" jt f fd):bc P w K mg base cY 1 f fd ["f"] (bQ K):=by
 refine F.ok uK (λvs H Q E h=>?_) (λcdv A outer s H vs Q E hr h=>?_)
 ·obtain⟨a,f,m,rfl,_⟩:=h
  rfl
 obtain⟨a,f,m,rfl,hS,hl,hf,hm,q⟩:=h
 have S:=uK
 refine⟨_,((af (bN (aF cP (aZ cv rfl B.eI PySem.boot_len (aa (pv 0) ae)) ag (aQ _)) (ak (aC (dS (aa ag ae)))) aR)
  (ak (aC (eU [0] ["f"] rfl rfl ⟨rfl,trivial⟩ ⟨rfl,rfl,rfl,rfl,trivial⟩ rfl rfl (by decide) (by decide) rfl rfl (by decide) (nX rfl B.fO (aa ag (aa (aZ cv rfl B.eI PySem.boot_len (aa (pv 0) ae)) ae))) (λ_ _ _ _=>dG) (λ_ _ _ _=>(av cA (pv 0) (ba (yQ (K:=K) rfl) (pv 1) (pv 0) (λ_ _=>rfl))))))))),?_⟩
 try walk_at "dr1"
 refine⟨_,.inl hS,?_⟩
 simp only [List.length_map]
 refine cG (λc=>?_) (λc=>?_)
 ·refine⟨by decide,?_⟩
  intro l n_l;generalize e0:upd _ l _=H1;obtain⟨g1,k1⟩:=cL e0 n_l;clear e0
  obtain⟨x,rfl⟩:∃x,f=[x]:=List.length_eq_one_iff.mp (by omega)
  exact q l H1 (λc hc=>by rw [List.mem_singleton.mp hc];exact Dr.Sm.zero _) n_l g1 k1
 ·refine⟨_,.inl hS,by decide,by decide,by simp only [List.length_map];omega,by simp only [List.length_map];omega,?_⟩
  refine Hb hS hl ?_
  intro l n_l;generalize e0:upd _ l _=H1;obtain⟨g1,k1⟩:=cL e0 n_l;clear e0
  have es:Dr.dm 1 f.tail=Dr.d7 f:=by
   match f,hl with
   | [x],_=>exact absurd rfl c
   | x::y::g,_=>rfl
  rw [es] at k1
  exact q l H1 (sL hl hf) n_l g1 k1
def cc (K:PySem.W.Frag):Sp:=λvs H Q _=>∃(p:Int) (b:Addr) (f:List Int) (a e:Int) (m n:Nat),vs=[.int p,.ref b,.int a,.int e]∧az K H b (f.map V.int)∧(0<f.length∧f.length≤60)∧(2≤p∧p<1000)∧(0≤e∧e<1000)∧Dr.bX f m∧Dr.Sm a n∧(10*e.toNat+1≤n∧n≤15000∧m≤50000) ∧
 ∀(c:Addr) (s:List Int) (H':Hp),Dr.fU f a (p^e.toNat) s→Dr.bX s (m+f.length*(n+13))→H c=none→aL H H'→H' c=some (.lst (s.map V.int))→Q (.ref c) H'
theorem DL {f:List Int}(h:0<f.length){i:Nat}{c:Int}(hc:f.dropLast.reverse[i]?=some c):f.drop (f.length-1-(i+1))=c::f.drop (f.length-1-i):=by
 have hi:i<f.dropLast.length:=by
  have:=(List.getElem?_eq_some_iff.mp hc).1
  simpa using this
 have hi':i<f.length-1:=by simpa using hi
 rw [List.getElem?_reverse hi,List.length_dropLast] at hc
 have h2:f.length-1-(i+1)<f.length:=by omega
 rw [List.drop_eq_getElem_cons h2,show f.length-1-(i+1)+1=f.length-1-i by omega]
 congr 1
 have h3:f.length-1-1-i=f.length-1-(i+1):=by omega
 rw [h3,List.getElem?_dropLast,if_pos (by omega),List.getElem?_eq_getElem h2] at hc
 exact Option.some.inj hc
theorem zu (B:Bi mg K w)(bZ:Def P w K mg base "power_of" 1 ["p","e"] (aw K))(kQ:Def P w K mg base "poly_product" 1 ["f","g"] (de K))(F:cD K "seen_from" "seen_from" iF f fd):bc P w K mg base cY 2 f fd ["p","f","a","e"] (cc K):=by
 refine F.ok tF (λvs H Q E h=>?_) (λcdv A outer s H vs Q E hr h=>?_)
 ·obtain⟨p,b,f,a,e,m,n,rfl,_⟩:=h
  rfl
 obtain⟨p,b,f,a,e,m,n,rfl,hS,hl,hp,he,hf,ha,hmn,q⟩:=h
 have S:=tF
 refine⟨_,((af (aB (i:=4) S.nd rfl (Or.inl rfl) (dS (aa (pv 2) (aa (aD bZ hr rfl (aa (pv 0) (aa (pv 3) ae))) ae))))
  (af (aB (i:=5) S.nd rfl (Or.inl rfl) (dS (aa (ba bK (pv 1) (mB kG ag) (λ_ _=>rfl)) ae)))
  (af (fK PassesOwn.never rfl (Eo rfl B.uT (nt wk (pv 1) oY (oZ (mB kG ag)))) (cI (i:=6) S.nd rfl (Or.inl rfl)) (af (aB (i:=5) S.nd rfl (Or.inl rfl) (aD kQ hr rfl (aa (pv 5) (aa (pv 4) ae))))
  (ak (BV (pv 5) ag yO (pv 6) rp set_list))))
  (ak (aC (pv 5))))))),?_⟩
 have bp:Dr.Sm (p^e.toNat) n:=(show Dr.Sm (p^e.toNat) (10*e.toNat+1) from i6 hp e.toNat).mono hmn.1
 have bps:Dr.bX [a,p^e.toNat] n:=λc hc=>by
  rcases List.mem_cons.mp hc with w|w
  ·rw [w];exact ha
  ·rw [List.mem_singleton.mp w];exact bp
 walk_at "r";(try simp only [aw,de]);try walk_at "dr2"
 refine⟨hp.1,hp.2,by (try clear hl hmn hp);omega,by (try clear hl hmn hp);omega,by decide,?_⟩
 intro l1 n_l1;generalize e0:upd _ l1 _=H1;obtain⟨g1,k1⟩:=cL e0 n_l1;clear e0
 have k1:H1 l1=some (.lst ([a,p^e.toNat].map V.int)):=k1
 obtain⟨x0,hx0⟩:∃x0,f.getLast?=some x0:=⟨f.getLast (List.ne_nil_of_length_pos hl.1),List.getLast?_eq_some_getLast _⟩
 walk_at "r";(try simp only [aw,de]);try walk_at "dr2"
 refine⟨_,g1.seq hS,_,E2 hx0,by decide,?_⟩
 intro l2 n_l2;generalize e0:upd _ l2 _=H2;obtain⟨g2,k2⟩:=cL e0 n_l2;clear e0
 have k2:H2 l2=some (.lst ([x0].map V.int)):=k2
 walk_at "r";(try simp only [aw,de]);try walk_at "dr2"
 refine⟨_,(g1.trans g2).seq hS,?_⟩
 intro l3 n_l3;generalize e0:upd _ l3 _=H3;obtain⟨g3,k3⟩:=cL e0 n_l3;clear e0
 rw [Fb] at k3
 refine⟨_,az.of k3,?_⟩
 have G3:=g1.trans (g2.trans g3)
 have ed:f.drop (f.length-1)=[x0]:=by
  have h2:f.length-1<f.length:=by ((try clear he hmn hp hx0 k1 k2 k3 n_l1 n_l2 n_l3);omega)
  rw [List.drop_eq_getElem_cons h2,show f.length-1+1=f.length by ((try clear he hmn hp hx0 k1 k2 k3 n_l1 n_l2 n_l3);omega),List.drop_length]
  rw [List.getLast?_eq_getElem?,List.getElem?_eq_getElem h2] at hx0
  rw [Option.some.inj hx0]
 obtain⟨Pv,hPv⟩:∃Pv:Nat→St→Hp→Prop,∀i σ H4,Pv i σ H4↔(aL H3 H4∧∃(c:Addr) (s:List Int) (t6:Option V),H c=none∧H4 c=some (.lst (s.map V.int))∧s.length=i+1∧Dr.bX s (m+i*(n+13))∧(∀y,Dr.aA s y=Dr.aA (f.drop (f.length-1-i)) (a+p^e.toNat*y))∧σ=[some (.int p),some (.ref b),some (.int a),some (.int e),some (.ref l1),some (.ref c),t6]):=⟨_,λ_ _ _=>Iff.rfl⟩
 refine IK f.dropLast Pv (by rw [List.length_map]) ((hPv _ _ _).mpr ⟨aL.refl _,l2,[x0],none,g1.free n_l2,g3 _ _ k2,rfl,λc hc=>?_,λy=>by rw [Nat.sub_zero,ed];simp [Dr.aA],rfl⟩) (λi σ H4 z=>by obtain⟨g,_⟩:=(hPv _ _ _).mp z;exact az.of (g _ _ k3)) ?_ ?_
 ·rw [List.mem_singleton.mp hc]
  exact (hf x0 (List.mem_of_getLast? hx0)).mono (by (try clear ed he hl hmn hp hx0 k1 k2 k3 n_l1 n_l2 n_l3);omega)
 ·intro i c σ H4 hc z
  obtain⟨g4,lc,s,t6,nc,kc,hsl,hsb,hse,rfl⟩:=(hPv _ _ _).mp z
  have hi:i<f.length-1:=by
   have:=(List.getElem?_eq_some_iff.mp hc).1
   simpa using this
  have hib:i*(n+13)≤60*15013:=Nat.mul_le_mul (by (try clear ed hc he hmn hp hsl hx0 k1 k2 k3 kc n_l1 n_l2 n_l3 nc);omega) (by (try clear ed hc he hi hl hp hsl hx0 k1 k2 k3 kc n_l1 n_l2 n_l3 nc);omega)
  walk_at "r";(try simp only [aw,de]);try walk_at "dr2"
  refine⟨s,az.of kc,[a,p^e.toNat],az.of (g4 _ _ (g3 _ _ (g2 _ _ k1))),by (try clear ed hc he hi hib hl hmn hp hx0 k1 k2 k3 kc n_l1 n_l2 n_l3 nc);omega,by (try clear ed hc he hib hmn hp hx0 k1 k2 k3 kc n_l1 n_l2 n_l3 nc);omega,by simp,by simp,_,hsb,n,bps,by (try clear ed hc he hi hl hp hsl hx0 k1 k2 k3 kc n_l1 n_l2 n_l3 nc);omega,by (try clear ed hc he hi hib hl hp hsl hx0 k1 k2 k3 kc n_l1 n_l2 n_l3 nc);omega,λlr r H5 hr hrb nr g5 kr=>?_⟩
  have hrl:=hr.len
  simp only [List.length_cons,List.length_nil] at hrl
  obtain⟨v,e1,_,e3,e4⟩:=vU (fs:=r) (k:=0) (by (try clear ed hc he hi hib hl hmn hp hrl hsl hx0 k1 k2 k3 kc kr n_l1 n_l2 n_l3 nc nr);omega) (by (try clear ed hc he hi hib hl hmn hp hx0 k1 k2 k3 kc kr n_l1 n_l2 n_l3 nc nr);omega)
  try walk_at "dr1";(try simp only [aw,de]);try walk_at "dr1"
  refine⟨_,az.of kr,_,e4,v,rfl,_,kr,_,e3,?_⟩
  rw [set_int]
  have e0:Int.toNat 0=0:=rfl
  rw [e0] at e1 ⊢
  have n3:=g4.free nr
  have hs1:(i+1)*(n+13)=i*(n+13)+(n+13):=Nat.succ_mul ..
  refine (hPv _ _ _).mpr ⟨(g4.trans g5).up n3 _,lr,_,_,G3.free n3,aS,by rw [List.length_set];((try clear e0 e1 e3 e4 ed hc he hi hib hl hmn hp hs1 hx0 k1 k2 k3 kc kr n3 n_l1 n_l2 n_l3 nc nr);omega),λd hd=>?_,λy=>?_,rfl⟩
  ·rcases mem_set hd with w|w
   ·exact (hrb d w).mono (by (try clear e0 e1 e3 e4 ed hc he hi hib hl hmn hp hrl hsl hx0 k1 k2 k3 kc kr n3 n_l1 n_l2 n_l3 nc nr);omega)
   ·rw [w]
    exact ((hrb v (List.mem_of_getElem? e1)).add (hf c (List.dropLast_subset _ (List.mem_reverse.mp (List.mem_of_getElem? hc))))).mono (by (try clear e0 e1 e3 e4 ed hc he hi hl hp hrl hsl hx0 k1 k2 k3 kc kr n3 n_l1 n_l2 n_l3 nc nr w);omega)
  ·rw [Dr.sG y c r 0 v e1,hr.ev,hse,DL hl.1 hc]
   simp only [Dr.aA,Int.pow_zero]
   generalize Dr.aA (List.drop (f.length-1-i) f) (a+p^e.toNat*y)=X
   generalize p^e.toNat=q
   grind
 ·intro σ H4 z
  obtain⟨g4,lc,s,t6,nc,kc,hsl,hsb,hse,rfl⟩:=(hPv _ _ _).mp z
  rw [List.length_dropLast] at hsl hsb hse
  try walk_at "dr1";(try simp only [aw,de]);try walk_at "dr1"
  refine q lc s H4 ⟨by (try clear ed he hmn hp hx0 k1 k2 k3 kc n_l1 n_l2 n_l3 nc);omega,λy=>?_⟩ (λc hc=>(hsb c hc).mono ?_) nc (G3.trans g4) kc
  ·rw [hse,Nat.sub_self,List.drop_zero]
  ·exact Nat.add_le_add_left (Nat.mul_le_mul_right _ (by (try clear ed he hmn hp hsl hx0 k1 k2 k3 kc n_l1 n_l2 n_l3 nc);omega)) _
def cX (K:PySem.W.Frag):Sp:=λvs H Q E=>∃(p:Int) (b:Addr) (f:List Int),vs=[.int p,.ref b]∧az K H b (f.map V.int)∧f.length≤60∧(2≤p∧p<1000) ∧
 ((∃c,c∈f∧c≠0)→∀(c:Nat) (H':Hp),Dr.dz p f c→aL H H'→Q (.int (c:Int)) H')∧((∀c,c∈f→c=0)→∀H',aL H H'→E (.ref (cq K "NoDepth")) none H')
theorem BA {l:List Int}{p:Int}:((l.map λx=>decide (x%p=0)).all id=true)↔∀x,x∈l→x%p=0:=by
 simp [List.all_map]
theorem DE {p:Int}(hp:2≤p){f l:List Int}{c:Nat}(e:f=l.map (p^c*·))(h:∀x,x∈l→x%p=0):f=(l.map (·/p)).map (p^(c+1)*·):=by
 rw [e,List.map_map]
 refine List.map_congr_left λx hx=>?_
 have:=Int.mul_ediv_add_emod x p
 rw [h x hx] at this
 simp only [Function.comp]
 rw [Int.pow_succ,Int.mul_assoc]
 congr 1
 omega
theorem E8 {p:Int}(hp:2≤p){f l:List Int}{c:Nat}(e:f=l.map (p^c*·))(h:∃x,x∈l∧x%p≠0):Dr.dz p f c:=by
 have q0:=Dr.pow_pos hp c
 refine⟨λx hx=>?_,?_⟩
 ·rw [e,List.mem_map] at hx
  obtain⟨y,_,rfl⟩:=hx
  simp
 ·obtain⟨x,hx,n⟩:=h
  refine⟨p^c*x,by rw [e];exact List.mem_map_of_mem hx,?_⟩
  rw [Int.mul_ediv_cancel_left _ (by omega)]
  exact n
theorem Hc {p:Int}(hp:2≤p){f:List Int}(h:∃c,c∈f∧c≠0):∃c,Dr.dz p f c:=by
 obtain⟨x,hx,x0⟩:=h
 obtain⟨d,u,hd⟩:=Dr.jY hp x0
 have go:∀n:Nat,n≤d→(∃c,Dr.dz p f c)∨∀y,y∈f→y%p^n=0:=by
  intro n
  induction n with
  | zero=>intro _;exact .inr λy _=>by simp [Int.emod_one]
  | succ n ih=>
   intro hn
   rcases ih (by omega) with z|z
   ·exact .inl z
   by_cases w:∀y,y∈f→y%p^(n+1)=0
   ·exact .inr w
   ·left
    refine⟨n,z,?_⟩
    refine Decidable.byContradiction λhno=>w λy hy=>Decidable.byContradiction λhy0=>hno ⟨y,hy,λw2=>hy0 ?_⟩
    have e1:=Int.mul_ediv_add_emod y (p^n)
    rw [z y hy] at e1
    obtain⟨k,ek⟩:=Int.dvd_of_emod_eq_zero w2
    rw [ek,Int.add_zero,←Int.mul_assoc,←Int.pow_succ] at e1
    rw [←e1]
    simp
 rcases go d (Nat.le_refl _) with z|z
 ·exact z
 ·refine⟨d,z,x,hx,?_⟩
  rw [hd.div hp]
  exact hd.2
theorem DD {K:PySem.W.Frag}{H:Hp}{a:Addr}{l:List Int}{p:Int}{σ:St}{Q:VK}{i:Nat}(hS:az K H a (l.map V.int))(hl:l.length≤60)(hp:2≤p)(hi:σ[i]?=some (some (.int p)))(q:∀r,H r=none→Q (.ref r) (upd H r (.lst ((l.map λx=>decide (x%p=0)).map V.bl)))) :
    iU (mL K a) [i] (λ_ H Q=>Q true H) (n5 Gx (n5 (rI (λ_ j=>0<j) λi j=>V.int (i%j)) (jD 0) (jD 1)) (tC (V.int 0))) σ H Q:=by
  obtain⟨Pc,hPc⟩:∃Pc:Nat→List V→Hp→Prop,∀i ys H1,Pc i ys H1↔(H1=H∧ys=((l.take i).map λx=>decide (x%p=0)).map V.bl):=⟨_,λ_ _ _=>Iff.rfl⟩
  refine r8 l Pc (by unfold sizeLine;omega) ((hPc _ _ _).mpr ⟨rfl,by simp⟩) (λi ys H4 z=>by obtain⟨rfl,_⟩:=(hPc _ _ _).mp z;exact hS) ?_ ?_
  · intro j c ys H1 hc z
    obtain⟨rfl,rfl⟩:=(hPc _ _ _).mp z
    simp only [cg,List.map_cons,List.map_nil,hi,Option.getD_some]
    try walk_at "dr1"
    refine⟨by omega,(hPc _ _ _).mpr ⟨rfl,?_⟩⟩
    rw [List.take_add_one,hc,List.map_append,List.map_append]
    simp
  · intro ys H1 z
    obtain⟨rfl,rfl⟩:=(hPc _ _ _).mp z
    intro r hr
    have:=q r hr
    rw [List.take_length]
    exact this
theorem yy {K:PySem.W.Frag}{H:Hp}{a:Addr}{l:List Int}{p:Int}{σ:St}{Q:VK}{i:Nat}(hS:az K H a (l.map V.int))(hl:l.length≤60)(hp:pe 0 p)(hi:σ[i]?=some (some (.int p)))(q:∀r,H r=none→Q (.ref r) (upd H r (.lst ((l.map (·/p)).map V.int)))) :
    iU (mL K a) [i] (λ_ H Q=>Q true H) (n5 (rI pe λi j=>V.int (i/j)) (jD 0) (jD 1)) σ H Q:=by
  obtain⟨Pc,hPc⟩:∃Pc:Nat→List V→Hp→Prop,∀i ys H1,Pc i ys H1↔(H1=H∧ys=((l.take i).map (·/p)).map V.int):=⟨_,λ_ _ _=>Iff.rfl⟩
  refine r8 l Pc (by unfold sizeLine;omega) ((hPc _ _ _).mpr ⟨rfl,by simp⟩) (λi ys H4 z=>by obtain⟨rfl,_⟩:=(hPc _ _ _).mp z;exact hS) ?_ ?_
  · intro j c ys H1 hc z
    obtain⟨rfl,rfl⟩:=(hPc _ _ _).mp z
    simp only [cg,List.map_cons,List.map_nil,hi,Option.getD_some]
    try walk_at "dr1"
    refine⟨hp,(hPc _ _ _).mpr ⟨rfl,?_⟩⟩
    rw [List.take_add_one,hc,List.map_append,List.map_append]
    simp
  · intro ys H1 z
    obtain⟨rfl,rfl⟩:=(hPc _ _ _).mp z
    intro r hr
    have:=q r hr
    rw [List.take_length]
    exact this
theorem Ge {p y:Int}(hp:2≤p)(hy:y≠0)(h:y%p=0):y/p≠0∧(y/p).natAbs<y.natAbs:=by
 have e1:y=p*(y/p):=by have:=Int.mul_ediv_add_emod y p;omega
 have n0:y/p≠0:=λz=>by rw [z] at e1;simp at e1;exact hy e1
 refine⟨n0,?_⟩
 have e2:y.natAbs=p.natAbs*(y/p).natAbs:=by rw [←Int.natAbs_mul,←e1]
 have l1:2*(y/p).natAbs≤p.natAbs*(y/p).natAbs:=Nat.mul_le_mul_right _ (by omega)
 omega
theorem xF (B:Bi mg K w)(AY:Def P w K mg base "degree_of" 1 ["f"] (fw K))(F:cD K "content_of" "content_of" gO f fd):bc P w K mg base (eh P w) 2 f fd ["p","f"] (cX K):=by
 refine F.jM qJ (λvs H Q E h=>?_) (λcdv A outer s H vs Q E hr h=>?_)
 ·obtain⟨p,b,f,rfl,_⟩:=h
  rfl
 obtain⟨p,b,f,rfl,hS,hl,hp,q,qx⟩:=h
 have S:=qJ
 refine⟨_,((af (bN (aF cP (aD AY hr rfl (aa (pv 1) ae)) (mB kG ag) (aQ _)) (ak (lj wx rfl rfl B.nO B.oa (aa bH ae))) aR)
  (af (aB (i:=2) S.nd rfl (Or.inl rfl) ag)
  (af (aB (i:=3) S.nd rfl (Or.inl rfl) (pv 1))
  (af (Eu (ll PassesOwn.never (gx (aZ (nP rfl) rfl B.x8 uV (aa (eU [0] ["p"] rfl rfl ⟨rfl,trivial⟩ ⟨rfl,rfl,rfl,rfl,trivial⟩ rfl rfl (by decide) (by decide) rfl rfl (by decide) (d3 (pv 3)) (λ_ _ _ _=>dG) (λ_ _ _ _=>(mH cP (av cp (pv 0) (pv 1)) ag (aQ _)))) ae))) (af (BW [0] ["p"] rfl S.nd (k:=3) rfl rfl rfl rfl ⟨rfl,trivial⟩ ⟨rfl,rfl,rfl,rfl,trivial⟩ rfl rfl (by decide) (by decide) rfl rfl (by decide) (d3 (pv 3)) (λ_ _ _ _=>dG) (λ_ _ _ _=>(av eD (pv 0) (pv 1))))
  (ak (zJ (i:=2) S.nd rfl (Or.inl rfl) ag rp)))))
  (ak (aC (pv 2)))))))),?_⟩
 walk_at "r";(try simp only [fw]);try walk_at "dr2"
 refine⟨f,hS,λd H1 hd g1=>cG (λc=>⟨by decide,?_⟩) (λc=>?_)⟩
 ·rcases hd with⟨_,z⟩|⟨k,_,z,_⟩
  ·exact qx z H1 g1
  ·((try clear hl hp);omega)
 obtain⟨k,x0,e0,ek,hx0⟩:∃(k:Nat) (x0:Int),d=(k:Int)∧f[k]?=some x0∧x0≠0:=by
  rcases hd with⟨z,_⟩|⟨k,x0,z,z1,z2,_⟩
  ·exact absurd z c
  ·exact⟨k,x0,z,z1,z2⟩
 have q:=q ⟨x0,List.mem_of_getElem? ek,hx0⟩
 walk_at "r";(try simp only [fw]);try walk_at "dr2"
 walk_at "r";(try simp only [fw]);try walk_at "dr2"
 refine cB ?_
 obtain⟨W,hW⟩:∃W:Nat→St→Hp→Prop,∀m' σ H2,W m' σ H2↔(aL H1 H2∧∃(a:Addr) (l:List Int) (c:Nat) (y:Int),az K H2 a (l.map V.int)∧l.length=f.length∧f=l.map (p^c*·)∧l[k]?=some y∧y≠0∧m'=y.natAbs∧σ=[some (.int p),some (.ref b),some (.int (c:Int)),some (.ref a)]):=⟨_,λ_ _ _=>Iff.rfl⟩
 refine EU W x0.natAbs ((hW _ _ _).mpr ⟨aL.refl _,b,f,0,x0,g1.seq hS,rfl,by simp,ek,hx0,rfl,rfl⟩) ?_
 intro m' σ H2 z
 obtain⟨g2,a,l,c,y,hS2,hll,ef,ey,hy,rfl,rfl⟩:=(hW _ _ _).mp z
 try walk_at "dr1";(try simp only [fw]);try walk_at "dr1"
 refine⟨⟨_,hS2⟩,DD hS2 (by (try clear e0 ef ek ey hp hx0 hy);omega) hp.1 rfl ?_⟩
 intro r n_r;generalize e0:upd _ r _=H3;obtain⟨g3,k3⟩:=cL e0 n_r;clear e0
 refine⟨_,rfl,_,az.of k3,?_⟩
 try walk_at "dr1";(try simp only [fw]);try walk_at "dr1"
 refine cG (λc0=>?_) (λc0=>?_)
 ·have hall:=BA.mp c0
  refine⟨_,λ_ _ h=>h,?_⟩
  try walk_at "dr1";(try simp only [fw]);try walk_at "dr1"
  refine⟨⟨_,g3.seq hS2⟩,yy (g3.seq hS2) (by (try clear c0 e0 ef ek ey hp hx0 hy k3 n_r);omega) (nV hp) rfl ?_⟩
  intro r4 n_r4;generalize e0:upd _ r4 _=H4;obtain⟨g4,k4⟩:=cL e0 n_r4;clear e0
  have t:=Ge hp.1 hy (hall y (List.mem_of_getElem? ey))
  exact⟨_,t.2,(hW _ _ _).mpr ⟨g2.trans (g3.trans g4),r4,l.map (·/p),c+1,y/p,az.of k4,by rw [List.length_map];exact hll,DE hp.1 ef hall,by rw [List.getElem?_map,ey];rfl,t.1,rfl,rfl⟩⟩
 ·refine q c H3 (E8 hp.1 ef ?_) (g1.trans (g2.trans g3))
  refine Decidable.byContradiction λhno=>c0 (BA.mpr λx hx=>Decidable.byContradiction λhx'=>hno ⟨x,hx,hx'⟩)
def bh (K:PySem.W.Frag):Sp:=λvs H Q E=>∃(p:Int) (b:Addr) (f:List Int) (m:Nat),vs=[.int p,.ref b]∧az K H b (f.map V.int)∧f.length≤60∧(2≤p∧p<1000)∧Dr.bX f m∧m≤8900 ∧
 ((∀c,c∈f→c=0)→∀H',aL H H'→E (.ref (cq K "NoDepth")) none H')∧((∃c,c∈f∧c≠0)→∀(c:Nat) (r:Addr) (H':Hp),Dr.dz p f c→H r=none→aL H H'→H' r=some (.lst ((Dr.dJ (p^c) f).map V.int))→Q (.ref r) H')
theorem BE {p:Int}{f:List Int}{c m:Nat}(hp:2≤p)(h:∃x,x∈f∧x≠0)(hc:Dr.dz p f c)(hb:Dr.bX f m):(p^c).natAbs<2^m:=by
 obtain⟨x,hx,n⟩:=h
 obtain⟨k,e⟩:=Int.dvd_of_emod_eq_zero (hc.1 x hx)
 have k0:k≠0:=λz=>by
  rw [z,Int.mul_zero] at e
  exact n e
 have h1:=hb x hx
 unfold Dr.Sm at h1
 have h2:x.natAbs=(p^c).natAbs*k.natAbs:=by rw [←Int.natAbs_mul,←e]
 have h3:(p^c).natAbs*1≤(p^c).natAbs*k.natAbs:=Nat.mul_le_mul_left _ (by omega)
 omega
theorem Cp {p:Int}{f:List Int}{c m:Nat}(hp:2≤p)(h:∃x,x∈f∧x≠0)(hc:Dr.dz p f c)(hb:Dr.bX f m):c<m+1:=by
 have h1:=BE hp h hc hb
 have h2:=Dr.pZ hp c
 have h3:2^c<2^m:=by omega
 have:=(Nat.pow_lt_pow_iff_right (show 1<2 by decide)).mp h3
 omega
theorem rG (B:Bi mg K w)(bZ:Def P w K mg base "power_of" 1 ["p","e"] (aw K))(mS:gz P w K mg base "content_of" 2 ["p","f"] (cX K))(F:cD K "without_content" "without_content" eW f fd):bc P w K mg base (eh P w) 3 f fd ["p","f"] (bh K):=by
 refine F.jM ml (λvs H Q E h=>?_) (λcdv A outer s H vs Q E hr h=>?_)
 ·obtain⟨p,b,f,m,rfl,_⟩:=h
  rfl
 obtain⟨p,b,f,m,rfl,hS,hl,hp,hb,hm,qe,q⟩:=h
 have S:=ml
 refine⟨_,((af (aB (i:=2) S.nd rfl (Or.inr rfl) (aD bZ hr rfl (aa (pv 0) (aa (e8 ig mS hr rfl (aa (pv 0) (aa (pv 1) ae))) ae))))
  (ak (aC (eU [2] ["power"] rfl rfl ⟨rfl,trivial⟩ ⟨rfl,rfl,rfl,rfl,trivial⟩ rfl rfl (by decide) (by decide) rfl rfl (by decide) (d3 (pv 1)) (λ_ _ _ _=>dG) (λ_ _ _ _=>(av eD (pv 0) (pv 1)))))))),?_⟩
 walk_at "r";(try simp only [aw,cX]);try walk_at "dr2"
 refine⟨f,hS,hl,hp.1,hp.2,λhne c H1 hc g1=>⟨hp.1,hp.2,by omega,?_,?_⟩,qe⟩
 ·have:=Cp hp.1 hne hc hb
  omega
 ·try walk_at "dr1";(try simp only [aw,cX]);try walk_at "dr1"
  refine⟨⟨_,g1.seq hS⟩,?_⟩
  rw [Int.toNat_natCast]
  refine yy (p:=p^c) (g1.seq hS) hl ⟨Dr.pow_pos hp.1 c,?_⟩ rfl ?_
  ·have h1:=BE hp.1 hne hc hb
   have h2:(2:Nat)^m≤2^8999:=Nat.pow_le_pow_right (by decide) (by omega)
   have h3:=Dr.pow_pos hp.1 c
   have:(p^c).natAbs.log2<8999:=(Nat.log2_lt (by omega)).mpr (Nat.lt_of_lt_of_le h1 h2)
   omega
  ·intro r n_r;generalize e0:upd _ r _=H2;obtain⟨g2,k2⟩:=cL e0 n_r;clear e0
   exact q hne c r H2 hc (g1.free n_r) (g1.trans g2) k2
noncomputable def wj (p:Int)(f:List Int):List Int:=((List.range p.toNat).map λk:Nat=>(k:Int)).filter λr=>decide (Dr.aA f r%p=0)
def bz (K:PySem.W.Frag):Sp:=λvs H Q _=>∃(p:Int) (b:Addr) (f:List Int),vs=[.int p,.ref b]∧az K H b (f.map V.int)∧f.length≤60∧(2≤p∧p<1000) ∧
 ∀(r:Addr) (H':Hp),H r=none→aL H H'→H' r=some (.lst ((wj p f).map V.int))→Q (.ref r) H'
theorem E7 {K:PySem.W.Frag}{H:Hp}{a:Addr}{l:List Int}{p:Int}{σ:St}{Q:VK}{i:Nat}(hS:az K H a (l.map V.int))(hl:l.length≤60)(hp:0<p)(hi:σ[i]?=some (some (.int p)))(q:∀r,H r=none→Q (.ref r) (upd H r (.lst ((l.map (·%p)).map V.int)))) :
    iU (mL K a) [i] (λ_ H Q=>Q true H) (n5 (rI (λ_ j=>0<j) λi j=>V.int (i%j)) (jD 0) (jD 1)) σ H Q:=by
  obtain⟨Pc,hPc⟩:∃Pc:Nat→List V→Hp→Prop,∀i ys H1,Pc i ys H1↔(H1=H∧ys=((l.take i).map (·%p)).map V.int):=⟨_,λ_ _ _=>Iff.rfl⟩
  refine r8 l Pc (by unfold sizeLine;omega) ((hPc _ _ _).mpr ⟨rfl,by simp⟩) (λi ys H4 z=>by obtain⟨rfl,_⟩:=(hPc _ _ _).mp z;exact hS) ?_ ?_
  · intro j c ys H1 hc z
    obtain⟨rfl,rfl⟩:=(hPc _ _ _).mp z
    simp only [cg,List.map_cons,List.map_nil,hi,Option.getD_some]
    try walk_at "dr1"
    refine⟨hp,(hPc _ _ _).mpr ⟨rfl,?_⟩⟩
    rw [List.take_add_one,hc,List.map_append,List.map_append]
    simp
  · intro ys H1 z
    obtain⟨rfl,rfl⟩:=(hPc _ _ _).mp z
    intro r hr
    have:=q r hr
    rw [List.take_length]
    exact this
theorem zF {p x:Int}:∀f:List Int,(Dr.aA (f.map (·%p)) x-Dr.aA f x)%p=0
 | []=>by simp [Dr.aA]
 | a::f=>by
  have ih:=zF (p:=p) (x:=x) f
  have h1:=Dr.cM (Dr.i8 p a) (Dr.eE x ih)
  simp only [List.map_cons,Dr.aA]
  rw [Int.mul_sub] at h1
  have e:a%p+x*Dr.aA (f.map (·%p)) x-(a+x*Dr.aA f x)=a%p-a+(x*Dr.aA (f.map (·%p)) x-x*Dr.aA f x):=by omega
  rw [e]
  exact h1
theorem rK {p x:Int}(f:List Int):Dr.aA (f.map (·%p)) x%p=0↔Dr.aA f x%p=0:=by
 have h:=zF (p:=p) (x:=x) f
 constructor
 ·intro z
  have:=Dr.dj z h
  rwa [show Dr.aA (f.map (·%p)) x-(Dr.aA (f.map (·%p)) x-Dr.aA f x)=Dr.aA f x by omega] at this
 ·intro z
  have:=Dr.cM h z
  rwa [Int.sub_add_cancel] at this
noncomputable def sI (p:Int)(f:List Int)(n:Nat):List Int:=((List.range n).map λk:Nat=>(k:Int)).filter λr=>decide (Dr.aA f r%p=0)
theorem rN (p:Int)(f:List Int)(n:Nat):sI p f (n+1)=sI p f n++if Dr.aA f (n:Int)%p=0 then [(n:Int)] else []:=by
 unfold sI
 rw [List.range_succ,List.map_append,List.filter_append]
 congr 1
 by_cases z:Dr.aA f (n:Int)%p=0
 ·simp [z]
 ·simp [z]
theorem sT (B:Bi mg K w)(eO:Def P w K mg base "worth_at" 1 ["f","x"] (bA K))(F:cD K "rests_by_prime" "rests_by_prime" fh f fd):bc P w K mg base cY 2 f fd ["p","f"] (bz K):=by
 refine F.ok mP (λvs H Q E h=>?_) (λcdv A outer s H vs Q E hr h=>?_)
 ·obtain⟨p,b,f,rfl,_⟩:=h
  rfl
 obtain⟨p,b,f,rfl,hS,hl,hp,q⟩:=h
 have S:=mP
 refine⟨_,((af (aB (i:=2) S.nd rfl (Or.inr rfl) (eU [0] ["p"] rfl rfl ⟨rfl,trivial⟩ ⟨rfl,rfl,rfl,rfl,trivial⟩ rfl rfl (by decide) (by decide) rfl rfl (by decide) (d3 (pv 1)) (λ_ _ _ _=>dG) (λ_ _ _ _=>(av cp (pv 0) (pv 1)))))
  (ak (aC (eU [0,2] ["p","small"] rfl rfl ⟨rfl,rfl,trivial⟩ ⟨rfl,rfl,rfl,rfl,rfl,rfl,rfl,rfl,trivial⟩ rfl rfl (by decide) (by decide) rfl rfl (by decide) (h8 rfl B.fO (aa (pv 0) ae)) (λ_ _ _ _=>(wa (aF cP (av cp (aD eO hr rfl (aa (pv 2) (aa (pv 0) ae))) (pv 1)) ag (aQ _)))) (λ_ _ _ _=>(pv 0))))))),?_⟩
 walk_at "r";(try simp only [bA]);try walk_at "dr2"
 refine⟨⟨_,hS⟩,E7 hS hl (by omega) rfl ?_⟩
 intro ls n_ls;generalize e0:upd _ ls _=H1;obtain⟨g1,k1⟩:=cL e0 n_ls;clear e0
 have bs:Dr.bX (f.map (·%p)) 10:=λc hc=>by
  obtain⟨x,_,rfl⟩:=List.mem_map.mp hc
  have:=dO x (show 0<p by omega)
  exact fM 1000 (by omega) (by decide)
 refine⟨by omega,by omega,?_⟩
 obtain⟨Pc,hPc⟩:∃Pc:Nat→List V→Hp→Prop,∀i ys H2,Pc i ys H2↔(H2=H1∧ys=(sI p f i).map V.int):=⟨_,λ_ _ _=>Iff.rfl⟩
 refine yb Pc (by unfold sizeLine;omega) ((hPc _ _ _).mpr ⟨rfl,rfl⟩) ?_ ?_
 ·intro i ys H2 hi z
  obtain⟨rfl,rfl⟩:=(hPc _ _ _).mp z
  try walk_at "dr1";(try simp only [bA]);try walk_at "dr1"
  refine⟨_,az.of k1,by rw [List.length_map];omega,10,bs,10,fM 1000 (by omega) (by decide),by decide,by decide,by omega,?_⟩
  rw [Int.zero_add]
  by_cases w:Dr.aA f (i:Int)%p=0
  ·rw [if_pos ((rK f).mpr w)]
   exact (hPc _ _ _).mpr ⟨rfl,by rw [rN,if_pos w,List.map_append];rfl⟩
  ·rw [if_neg λz=>w ((rK f).mp z)]
   exact (hPc _ _ _).mpr ⟨rfl,by rw [rN,if_neg w,List.append_nil]⟩
 ·intro ys H2 z
  obtain⟨rfl,rfl⟩:=(hPc _ _ _).mp z
  intro r n_r;generalize e0:upd _ r _=H3;obtain⟨g3,k3⟩:=cL e0 n_r;clear e0
  exact q r H3 (g1.free n_r) (g1.trans g3) k3
theorem da.uniq {p:Int}{f:List Int}{a u v:Int}{d e:Nat}(hp:2≤p)(h:Dr.da p f a d u)(h':Dr.da p f a e v):d=e:=(h.jY.uniq hp h'.jY).1
def Told (p:Int)(f:List Int)(a:Int)(Q:V→Prop):Prop:=(∀(d:Nat) (u:Int),Dr.da p f a d u→d≤100000→Q (.int (d:Int)))∧((∀(d:Nat) (u:Int),¬Dr.da p f a d u)→Q .cU)
def aN (K:PySem.W.Frag):Sp:=λvs H Q _=>∃(p:Int) (b:Addr) (f:List Int) (a:Int) (m n:Nat),vs=[.int p,.ref b,.int a]∧az K H b (f.map V.int)∧(0<f.length∧f.length≤13)∧Dr.bX f m∧Dr.Sm a n∧(m≤9000∧n≤1400)∧(2≤p∧p<1000)∧∀H',aL H H'→Told p f a (λv=>Q v H')
theorem vm (B:Bi mg K w)(pE:Def P w K mg base "depth_of" 1 ["p","x"] (dh K))(bZ:Def P w K mg base "power_of" 1 ["p","e"] (aw K))(eO:Def P w K mg base "worth_at" 1 ["f","x"] (bA K))(ib:Def P w K mg base "slope_of" 1 ["f"] (bQ K))(F:cD K "single_depth" "single_depth" fS f fd):bc P w K mg base cY 2 f fd ["p","f","a"] (aN K):=by
 refine F.ok oI (λvs H Q E h=>?_) (λcdv A outer s H vs Q E hr h=>?_)
 ·obtain⟨p,b,f,a,m,n,rfl,_⟩:=h
  rfl
 obtain⟨p,b,f,a,m,n,rfl,hS,hl,hf,ha,hmn,hp,q⟩:=h
 have S:=oI
 refine⟨_,((af (aB (i:=3) S.nd rfl (Or.inl rfl) (aD eO hr rfl (aa (aD ib hr rfl (aa (pv 1) ae)) (aa (pv 2) ae))))
  (af (bN (aF cP (pv 3) ag (aQ _)) (ak (aC jN)) aR)
  (af (aB (i:=4) S.nd rfl (Or.inl rfl) (aD pE hr rfl (aa (pv 0) (aa (pv 3) ae))))
  (af (bN (aF my (av cp (aD eO hr rfl (aa (pv 1) (aa (pv 2) ae))) (aD bZ hr rfl (aa (pv 0) (aa (av cS (av cA ag (pv 4)) ag) ae)))) ag (aQ _)) (ak (aC jN)) aR)
  (ak (aC (pv 4)))))))),?_⟩
 walk_at "r";(try simp only [dh,aw,bA,bQ]);try walk_at "dr2"
 refine⟨f,hS,by (try clear hmn hp);omega,by (try clear hmn hp);omega,m,hf,by (try clear hl hp);omega,λc H1 hsb _ g1 k1=>?_⟩
 have sl:(Dr.d7 f).length≤13:=by rw [Dr.jg hl.1];((try clear hmn hp k1);omega)
 refine⟨Dr.d7 f,az.of k1,by (try clear hl hmn hp k1);omega,m+6,hsb,n,ha,by (try clear hl hp k1 sl);omega,by (try clear hl hp k1 sl);omega,?_⟩
 rw [Dr.j3 hl.1]
 have bd:Dr.Sm (Dr.d6 f a) 30000:=by
  rw [←Dr.j3 hl.1]
  refine (ha.aA hsb).mono ?_
  have:(Dr.d7 f).length*(n+1)≤13*1401:=Nat.mul_le_mul sl (by (try clear hl hp k1 sl);omega)
  ((try clear hl hp k1 sl);omega)
 walk_at "r";(try simp only [dh,aw,bA,bQ]);try walk_at "dr2"
 refine cG (λc0=>?_) (λc0=>?_)
 ·exact (q H1 g1).2 λd u hs=>hs.jY.ne hp.1 c0
 walk_at "r";(try simp only [dh,aw,bA,bQ]);try walk_at "dr2"
 refine⟨hp.1,hp.2,c0,λd u hd=>?_⟩
 have hd2:d<30000:=hd.yG hp.1 bd
 walk_at "r";(try simp only [dh,aw,bA,bQ]);try walk_at "dr2"
 refine⟨f,g1.seq hS,by (try clear c0 hd2 hmn hp k1 sl);omega,m,hf,n,ha,by (try clear c0 hd2 hl hp k1 sl);omega,by (try clear c0 hd2 hl hp k1 sl);omega,IntMulOk.of_left (by decide),hp.1,hp.2,by (try clear c0 hl hmn hp k1 sl);omega,by (try clear c0 hl hmn hp k1 sl);omega,Dr.pow_pos hp.1 _,?_⟩
 have e2:(2*(d:Int)+1).toNat=2*d+1:=by ((try clear c0 hl hmn hp k1 sl);omega)
 rw [e2]
 refine cG (λc1=>?_) (λc1=>?_)
 ·refine (q H1 g1).2 λd' u' hs=>c1 ?_
  have:=(hs.jY.uniq hp.1 hd).1
  rw [←this]
  exact hs.deep
 ·exact (q H1 g1).1 d u ⟨hd,Decidable.byContradiction λz=>c1 z⟩ (by (try clear c0 c1 e2 hl hmn hp k1 sl);omega)
def iK (K:PySem.W.Frag):Sp:=λvs H Q _=>∃(p:Int) (b:Addr) (f:List Int) (a N:Int) (d m n:Nat) (u:Int),vs=[.int p,.ref b,.int a,.int (d:Int),.int N]∧az K H b (f.map V.int)∧(0<f.length∧f.length≤13)∧p∈Dr.cm∧Dr.bX f m∧Dr.Sm a n∧(m≤9000∧n≤1400)∧Dr.da p f a d u∧Dr.Sm (p^d) 4000∧((d:Int)+1<N∧N≤60) ∧
 ∀(r:Int) (H':Hp),aL H H'→Dr.iM p f a d N.toNat r→Q (.int r) H'
theorem Be (B:Bi mg K w)(bZ:Def P w K mg base "power_of" 1 ["p","e"] (aw K))(yD:Def P w K mg base "inverse_of" 2 ["p","e","x"] (dW K))(eO:Def P w K mg base "worth_at" 1 ["f","x"] (bA K))(ib:Def P w K mg base "slope_of" 1 ["f"] (bQ K))(F:cD K "deepened" "deepened" jn f fd):bc P w K mg base cY 3 f fd ["p","f","a","d","N"] (iK K):=by
 refine F.ok uG (λvs H Q E h=>?_) (λcdv A outer s H vs Q E hr h=>?_)
 ·obtain⟨p,b,f,a,N,d,m,n,u,rfl,_⟩:=h
  rfl
 obtain⟨p,b,f,a,N,d,m,n,u,rfl,hS,hl,hpp,hf,ha,hmn,hs,bd,hN,q⟩:=h
 have S:=uG
 have p2:=Dr.cy hpp
 have hp:2≤p∧p<1000:=by omega
 refine⟨_,((af (aB (i:=5) S.nd rfl (Or.inl rfl) (aD bZ hr rfl (aa (pv 0) (aa (av cS (pv 3) ag) ae))))
  (af (aB (i:=6) S.nd rfl (Or.inl rfl) (aD bZ hr rfl (aa (pv 0) (aa (av cS (av cA ag (pv 3)) ag) ae))))
  (af (aB (i:=7) S.nd rfl (Or.inl rfl) (av cp (pv 2) (pv 5)))
  (af (aB (i:=8) S.nd rfl (Or.inl rfl) (aD yD hr rfl (aa (pv 0) (aa ag (aa (av eD (aD eO hr rfl (aa (aD ib hr rfl (aa (pv 1) ae)) (aa (pv 2) ae))) (aD bZ hr rfl (aa (pv 0) (aa (pv 3) ae)))) ae)))))
  (af (fK PassesOwn.never rfl (nX rfl B.fO (aa (av cS (pv 3) ag) (aa (pv 4) ae))) (cI (i:=9) S.nd rfl (Or.inl rfl)) (af (aB (i:=10) S.nd rfl (Or.inl rfl) (av cp (av cA (mB kG (av eD (aD eO hr rfl (aa (pv 1) (aa (pv 7) ae))) (pv 6))) (pv 8)) (pv 0)))
  (af (aB (i:=7) S.nd rfl (Or.inl rfl) (av cS (pv 7) (av cA (pv 10) (pv 5))))
  (af (aB (i:=5) S.nd rfl (Or.inl rfl) (av cA (pv 5) (pv 0)))
  (ak (aB (i:=6) S.nd rfl (Or.inl rfl) (av cA (pv 6) (pv 0))))))))
  (ak (aC (pv 7))))))))),?_⟩
 have bp:Dr.Sm p 10:=fM 1000 (by omega) (by decide)
 have pos:∀k:Nat,0<p^k:=λk=>Dr.pow_pos hp.1 k
 walk_at "r";(try simp only [aw,dW,bA,bQ]);try walk_at "dr2"
 refine⟨hp.1,hp.2,by omega,by omega,?_⟩
 rw [show ((d:Int)+1).toNat=d+1 by omega]
 walk_at "r";(try simp only [aw,dW,bA,bQ]);try walk_at "dr2"
 refine⟨IntMulOk.of_left (by decide),hp.1,hp.2,by omega,by omega,?_⟩
 rw [show (2*(d:Int)+1).toNat=2*d+1 by omega]
 walk_at "r";(try simp only [aw,dW,bA,bQ]);try walk_at "dr2"
 refine⟨pos _,?_⟩
 walk_at "r";(try simp only [aw,dW,bA,bQ]);try walk_at "dr2"
 refine⟨f,hS,by omega,by omega,m,hf,by omega,λc H1 hsb _ g1 k1=>?_⟩
 have sl:(Dr.d7 f).length≤13:=by rw [Dr.jg hl.1];omega
 refine⟨Dr.d7 f,az.of k1,by omega,m+6,hsb,n,ha,by omega,by omega,hp.1,hp.2,by omega,by omega,?_⟩
 rw [Dr.j3 hl.1,Int.toNat_natCast]
 have cdiv:∀{x:Int} {k:Nat},0<x→Dr.Sm x k→k≤8999→∀y,pe y x:=λ{x k} h1 h2 h3 y=>⟨h1,by
  have:=(Nat.log2_lt (by omega)).mpr h2
  omega⟩
 have bw:Dr.Sm (Dr.d6 f a) 30000:=by
  rw [←Dr.j3 hl.1]
  refine (ha.aA hsb).mono ?_
  have:(Dr.d7 f).length*(n+1)≤13*1401:=Nat.mul_le_mul sl (by omega)
  omega
 have eu:Dr.d6 f a/p^d=u:=hs.jY.div hp.1
 rw [eu]
 have bu:Builtin.Int.intBits u≤2^22:=by
  refine Nat.le_trans (PyProof.Rows.intBits_le (k:=30000) ?_) (by decide)
  have h1:u.natAbs≤(Dr.d6 f a).natAbs:=by
   rw [hs.jY.1,Int.natAbs_mul]
   have:=pos d
   exact Nat.le_mul_of_pos_right _ (by omega)
  unfold Dr.Sm at bw
  omega
 refine⟨cdiv (pos d) bd (by decide) _,hpp,bu,.inr hs.jY.2,λy H2 hy g2=>?_⟩
 have e1:Int.toNat 1=1:=rfl
 rw [e1] at hy
 have hone:(u*y-1)%p=0:=by
  have:=hy.one
  rwa [Int.pow_one] at this
 have hylo:=hy.lo
 have hyhi:y<p:=by have:=hy.hi;rwa [Int.pow_one] at this
 walk_at "r";(try simp only [aw,dW,bA,bQ]);try walk_at "dr2"
 refine⟨by omega,by omega,by omega,by omega,?_⟩
 have G2:=g1.trans g2
 obtain⟨Pv,hPv⟩:∃Pv:Nat→St→Hp→Prop,∀i σ H3,Pv i σ H3↔(H3=H2∧∃(r:Int) (t9 t10:Option V),Dr.iM p f a d (d+1+i) r∧σ=[some (.int p),some (.ref b),some (.int a),some (.int (d:Int)),some (.int N),some (.int (p^(d+1+i))),some (.int (p^(2*d+1+i))),some (.int r),some (.int y),t9,t10]):=⟨_,λ_ _ _=>Iff.rfl⟩
 refine forR Pv ((hPv _ _ _).mpr ⟨rfl,_,none,none,Dr.iM.start hp.1 hs,rfl⟩) ?_ ?_
 ·intro i σ H3 hi z
  obtain⟨rfl,r,t9,t10,hr,rfl⟩:=(hPv _ _ _).mp z
  have hi':(d:Int)+1+i<N:=by omega
  have br:Dr.Sm r 700:=by
   have h1:=hr.lo
   have h2:=hr.hi
   have h3:Dr.Sm (p^(d+1+i)) 700:=(show Dr.Sm _ (10*(d+1+i)+1) from i6 hp _).mono (by omega)
   unfold Dr.Sm at h3 ⊢
   omega
  have e2:p^(2*d+1+i)=p^(d+1+i)*p^d:=by rw [←Dr.pow_add'];congr 1;omega
  have bwp:Dr.Sm (p^(2*d+1+i)) 4700:=by
   rw [e2]
   exact ((show Dr.Sm (p^(d+1+i)) 700 from (show Dr.Sm _ (10*(d+1+i)+1) from i6 hp _).mono (by omega)).mul bd).mono (by decide)
  have st:=hr.step hp.1 hs hone (by omega)
  rw [show d+1+i+d=2*d+1+i by omega] at st
  walk_at "r";(try simp only [aw,dW,bA,bQ]);try walk_at "dr2"
  refine⟨f,G2.seq hS,by omega,m,hf,700,br,by omega,by decide,cdiv (pos _) bwp (by decide) _,IntMulOk.of_right (intBits_le_64 (by omega) (by omega)),by omega,?_⟩
  have ms:=dO (-(Dr.aA f r/p^(2*d+1+i))*y) (show 0<p by omega)
  generalize -(Dr.aA f r/p^(2*d+1+i))*y%p=s at ms st ⊢
  try walk_at "dr1";(try simp only [aw,dW,bA,bQ]);try walk_at "dr1"
  exact⟨IntMulOk.of_left (intBits_le_64 (by omega) (by omega)),IntMulOk.of_right (intBits_le_64 (by omega) (by omega)),IntMulOk.of_right (intBits_le_64 (by omega) (by omega)),(hPv _ _ _).mpr ⟨rfl,_,_,_,st,by rw [show d+1+(i+1)=(d+1+i)+1 by omega,show 2*d+1+(i+1)=(2*d+1+i)+1 by omega,Int.pow_succ,Int.pow_succ]⟩⟩
 ·intro σ H3 z
  obtain⟨rfl,r,t9,t10,hr,rfl⟩:=(hPv _ _ _).mp z
  try walk_at "dr1";(try simp only [aw,dW,bA,bQ]);try walk_at "dr1"
  rw [show d+1+(N-((d:Int)+1)).toNat=N.toNat by omega] at hr
  exact q r H3 G2 hr
def bE (K:PySem.W.Frag):Sp:=λvs H Q E=>∃(p:Int) (b:Addr) (f:List Int) (a N:Int) (m n:Nat),vs=[.int p,.ref b,.int a,.int N]∧az K H b (f.map V.int)∧(0<f.length∧f.length≤13)∧p∈Dr.cm∧Dr.bX f m∧Dr.Sm a n∧(m≤9000∧n≤1400)∧((m≤1000∧n≤200)∨¬Dr.d6 f a%p=0∨∀(d:Nat) (u:Int),Dr.da p f a d u→Dr.Sm (p^d) 4000)∧(0≤N∧N≤60)∧∀H',aL H H' →
 (∀(d:Nat) (u:Int),Dr.da p f a d u→(N≤(d:Int)+1→Q (.int (a%p^N.toNat)) H')∧((d:Int)+1<N→∀r:Int,Dr.iM p f a d N.toNat r→Q (.int r) H'))∧((∀(d:Nat) (u:Int),¬Dr.da p f a d u)→E (.ref (cq K "NoSingle")) none H')
theorem EC {p:Int}{f:List Int}{a u:Int}{d m n:Nat}(hp:2≤p)(hl:0<f.length∧f.length≤13)(hf:Dr.bX f m)(ha:Dr.Sm a n)(hmn:m≤9000∧n≤1400)(hmu:(m≤1000∧n≤200)∨¬Dr.d6 f a%p=0∨∀(d:Nat) (u:Int),Dr.da p f a d u→Dr.Sm (p^d) 4000)(hs:Dr.da p f a d u):Dr.Sm (p^d) 4000:=by
 rcases hmu with hm|hu|hu
 case inr.inr=>exact hu d u hs
 case inr.inl=>
  have d0:d=0:=by
   have:=(hs.jY.dvd hp 1).mp
   refine Decidable.byContradiction λz=>hu ?_
   have:=(hs.jY.dvd hp 1).mpr (by omega)
   rwa [Int.pow_succ,Int.pow_zero,Int.one_mul] at this
  rw [d0,Int.pow_zero]
  exact fM 1 (by decide) (Nat.one_lt_two_pow (by decide))
 have bw:Dr.Sm (Dr.d6 f a) 4000:=by
  rw [←Dr.j3 hl.1]
  have sl:(Dr.d7 f).length≤12:=by rw [Dr.jg hl.1];omega
  refine (ha.aA (sL ⟨hl.1,by omega⟩ hf)).mono ?_
  have:(Dr.d7 f).length*(n+1)≤12*201:=Nat.mul_le_mul sl (by omega)
  omega
 have:=hs.jY.Es hp
 unfold Dr.Sm at bw ⊢
 omega
theorem CO (B:Bi mg K w)(bZ:Def P w K mg base "power_of" 1 ["p","e"] (aw K))(gJ:Def P w K mg base "single_depth" 2 ["p","f","a"] (aN K))(Cu:Def P w K mg base "deepened" 3 ["p","f","a","d","N"] (iK K))(F:cD K "root_of" "root_of" j6 f fd):bc P w K mg base (eh P w) 4 f fd ["p","f","a","N"] (bE K):=by
 refine F.jM wI (λvs H Q E h=>?_) (λcdv A outer s H vs Q E hr h=>?_)
 ·obtain⟨p,b,f,a,N,m,n,rfl,_⟩:=h
  rfl
 obtain⟨p,b,f,a,N,m,n,rfl,hS,hl,hpp,hf,ha,hmn,hmu,hN,q⟩:=h
 have S:=wI
 have p2:=Dr.cy hpp
 have hp:2≤p∧p<1000:=by ((try clear hN hl hmn hmu);omega)
 refine⟨_,((af (aB (i:=4) S.nd rfl (Or.inl rfl) (aD gJ hr rfl (aa (pv 0) (aa (pv 1) (aa (pv 2) ae)))))
  (af (bN (aF vn (pv 4) jN (aQ _)) (ak (lj wx rfl rfl B.pC B.qf (aa bH ae))) aR)
  (af (bN (aF Gu (pv 3) (av cS (pv 4) ag) (aQ _)) (ak (aC (av cp (pv 2) (aD bZ hr rfl (aa (pv 0) (aa (pv 3) ae)))))) aR)
  (ak (aC (aD Cu hr rfl (aa (pv 0) (aa (pv 1) (aa (pv 2) (aa (pv 4) (aa (pv 3) ae)))))))))))),?_⟩
 walk_at "r";(try simp only [aw,aN,iK]);try walk_at "dr2"
 refine⟨f,hS,by (try clear hN hmn hmu hp p2);omega,by (try clear hN hmn hmu hp p2);omega,m,hf,n,ha,by (try clear hN hl hmu hp p2);omega,by (try clear hN hl hmu hp p2);omega,hp.1,hp.2,λH1 g1=>⟨λd u hd hd1=>?_,λhno=>?_⟩⟩
 ·walk_at "r";(try simp only [aw,aN,iK]);try walk_at "dr2"
  walk_at "r";(try simp only [aw,aN,iK]);try walk_at "dr2"
  refine cG (λc0=>?_) (λc0=>?_)
  ·exact⟨hp.1,hp.2,by (try clear c0 hd1 hl hmn hmu hp p2);omega,by (try clear c0 hd1 hl hmn hmu hp p2);omega,Dr.pow_pos hp.1 _,((q H1 g1).1 d u hd).1 c0⟩
  ·exact⟨f,N,d,rfl,rfl,g1.seq hS,by (try clear c0 hN hd1 hmn hmu hp p2);omega,by (try clear c0 hN hd1 hmn hmu hp p2);omega,hpp,m,hf,n,ha,by (try clear c0 hN hd1 hl hmu hp p2);omega,by (try clear c0 hN hd1 hl hmu hp p2);omega,⟨u,hd⟩,EC hp.1 hl hf ha hmn hmu hd,by (try clear hN hd1 hl hmn hmu hp p2);omega,by (try clear c0 hd1 hl hmn hmu hp p2);omega,λr H2 g2 hr=>((q H2 (g1.trans g2)).1 d u hd).2 (by (try clear hN hd1 hl hmn hmu hp p2);omega) r hr⟩
 ·walk_at "r";(try simp only [aw,aN,iK]);try walk_at "dr2"
  exact⟨by decide,(q H1 g1).2 hno⟩
def ij (K:PySem.W.Frag)(n:Nat):Sp:=λvs H Q E=>∃(p a e' N':Int) (e N:Nat) (b:Addr) (s:List Int) (m:Nat),vs=[.int p,.int a,.int e',.ref b,.int N']∧e'=(e:Int)∧N'=(N:Int)∧az K H b (s.map V.int)∧(0<s.length∧s.length≤13)∧p∈Dr.cm∧(0≤a∧a<p^e)∧(e+n=60∧N≤60)∧Dr.bX s m∧m+104*n≤8800 ∧
 ((∀x,x∈s→x=0)→0<n→∀H',aL H H'→E (.ref (cq K "NoDepth")) none H')∧(Dr.vK p n s→(0<n→∃x,x∈s∧x≠0)→∀H',aL H H'→E (.ref (cq K "TooDeep")) none H') ∧
 ∀(c:Addr) (L:List Int) (H':Hp),Dr.Found p N n a e s L→H c=none→aL H H'→H' c=some (.lst (L.map V.int))→Q (.ref c) H'
abbrev nY (K:PySem.W.Frag):Sp:=ij K 60
theorem II {p a:Int}{N n e:Nat}{s:List Int}{c:Nat}{rs L:List Int}(hp:p∈Dr.cm)(hc:Dr.dz p s c)(fl:Dr.FL p N (Dr.Found p N n) a e (Dr.dJ (p^c) s) rs L)(hr:∀r,r∈rs→Dr.aA (Dr.dJ (p^c) s) r%p=0)(ap:rs.Pairwise λr s=>(s-r)%p≠0):L.length<s.length:=by
 have p2:=Dr.cy hp
 obtain⟨m,hl,hm⟩:=Dr.mF _ (Dr.iZ hc)
 obtain⟨R,e1,e2,e3⟩:=Dr.FL.len (by omega) (λh=>Dr.Found.len hp h) fl hr
 have:=Dr.je hp m _ R hm (by rw [e1];exact ap) e3
 rw [Dr.kY] at hl
 omega
theorem zR {p x:Int}{g:List Int}{M:Nat}(hp:2≤p)(hM:M≤1)(h:Dr.aA g x%p=0):Dr.lK p g x M (x%p^M):=by
 have q0:=Dr.pow_pos hp M
 have e1:=Dr.i8 (p^M) x
 have hw:Dr.aA g x%p^M=0:=Dr.eF (p:=p) (k:=1) (by rw [Int.pow_succ,Int.pow_zero,Int.one_mul];exact h) hM
 refine⟨Int.emod_nonneg _ (by omega),Int.emod_lt_of_pos _ q0,?_,?_⟩
 ·by_cases c:M=0
  ·exact .inl c
  ·obtain rfl:M=1:=by omega
   rw [Int.pow_succ,Int.pow_zero,Int.one_mul] at e1 ⊢
   exact .inr e1
 ·have:=Dr.cM (Dr.uq g e1) hw
  rwa [Int.sub_add_cancel] at this
theorem Ex {p x r:Int}{g:List Int}{M:Nat}(h:Dr.iM p g x 0 M r):Dr.lK p g x M r:=by
 have n:=h.near
 rw [Nat.zero_add,Int.pow_succ,Int.pow_zero,Int.one_mul] at n
 exact⟨h.lo,h.hi,.inr n,h.deep⟩
theorem vk (B:Bi mg K w)(bZ:Def P w K mg base "power_of" 1 ["p","e"] (aw K))(eO:Def P w K mg base "worth_at" 1 ["f","x"] (bA K))(ib:Def P w K mg base "slope_of" 1 ["f"] (bQ K))(jJ:Def P w K mg base "seen_from" 2 ["p","f","a","e"] (cc K))(jB:gz P w K mg base "without_content" 3 ["p","f"] (bh K))(jU:Def P w K mg base "rests_by_prime" 2 ["p","f"] (bz K))(lQ:gz P w K mg base "root_of" 4 ["p","f","a","N"] (bE K)){n:Nat}(kR:gz P w K mg base "roots_within" (4+n) ["p","a","e","seen","N"] (ny (ij K) n))(F:cD K "roots_within" "roots_within" fR f fd):bc P w K mg base (eh P w) (4+n+1) f fd ["p","a","e","seen","N"] (ij K n):=by
 refine F.jM oH (λvs H Q E h=>?_) (λcdv A outer s H vs Q E hr h=>?_)
 ·obtain⟨p,a,e',N',e,N,b,s,m,rfl,_⟩:=h
  rfl
 obtain⟨p,a,e',N',e,N,b,s,m,rfl,rfl,rfl,hS,hl,hp,ha,heN,hb,hm,qz,qd,q⟩:=h
 have S:=oH
 obtain⟨_,ao⟩:=B.ao
 have p2:=Dr.cy hp
 have hpp:2≤p∧p<1000:=by ((try clear ao ha heN hl hm);omega)
 refine⟨_,((af (bN (aF cP (pv 2) (ee (v:=.int 60) rfl ao ⟨_,rfl⟩) (aQ _)) (ak (lj wx rfl rfl B.qW B.rZ (aa bH ae))) aR)
  (af (aB (i:=5) S.nd rfl (Or.inl rfl) (e8 ig jB hr rfl (aa (pv 0) (aa (pv 3) ae)) (hjk:=by ((try clear ao ha hl hm hpp p2);omega))))
  (af (aB (i:=6) S.nd rfl (Or.inl rfl) (aD ib hr rfl (aa (pv 5) ae) (hjk:=by ((try clear ao ha hl hm hpp p2);omega))))
  (af (aB (i:=7) S.nd rfl (Or.inl rfl) (aD bZ hr rfl (aa (pv 0) (aa (pv 2) ae)) (hjk:=by ((try clear ao ha hl hm hpp p2);omega))))
  (af (aB (i:=8) S.nd rfl (Or.inl rfl) (dS ae))
  (af (fK PassesOwn.leaving rfl (d3 (aD jU hr rfl (aa (pv 0) (aa (pv 5) ae)) (hjk:=by ((try clear ao ha hl hm hpp p2);omega)))) (cI (i:=9) S.nd rfl (Or.inl rfl)) (ak (bN (aF cP (av cp (aD eO hr rfl (aa (pv 6) (aa (pv 9) ae)) (hjk:=by ((try clear ao ha hl hm hpp p2);omega))) (pv 0)) ag (aQ _)) (ak (mJ (jf PySem.F.plainAttrs_list PySem.F.slot_list_extend PySem.F.type_list_extend xb (pv 8) (aa (e8 ig kR hr rfl (aa (pv 0) (aa (av cS (pv 1) (av cA (pv 9) (pv 7))) (aa (av cS (pv 2) ag) (aa (aD jJ hr rfl (aa (pv 0) (aa (pv 5) (aa (pv 9) (aa ag ae)))) (hjk:=by ((try clear ao ha hl hm hpp p2);omega))) (aa (pv 4) ae))))) (hjk:=by ((try clear ao ha heN hl hm hpp p2);omega))) ae)))) (af (aB (i:=10) S.nd rfl (Or.inl rfl) (av cS (pv 1) (av cA (pv 7) (e8 ig lQ hr rfl (aa (pv 0) (aa (pv 5) (aa (pv 9) (aa (aZ (wR rfl) rfl B.Gp L2.Du (aa (av ft (pv 4) (pv 2)) (aa ag ae))) ae)))) (hjk:=by ((try clear ao ha hl hm hpp p2);omega))))))
  (ak (mJ (jf PySem.F.plainAttrs_list PySem.F.slot_list_append PySem.F.type_list_append xa (pv 8) (aa (av cp (pv 10) (aD bZ hr rfl (aa (pv 0) (aa (pv 4) ae)) (hjk:=by ((try clear ao ha hl hm hpp p2);omega)))) ae))))))))
  (ak (aC (pv 8)))))))))),?_⟩
 walk_at "r";(try simp only [aw,bA,bQ,cc,bh,bz,bE]);try walk_at "dr2"
 refine cG (λc0=>?_) (λc0=>?_)
 ·obtain rfl:n=0:=by ((try clear ao ha hl hm hpp p2);omega)
  exact⟨by decide,qd trivial (λz=>absurd z (by (try clear c0 ao ha heN hl hm hpp p2);omega)) H (aL.refl _)⟩
 obtain⟨n',rfl⟩:∃n',n=n'+1:=⟨n-1,by (try clear ao ha hl hm hpp p2);omega⟩
 walk_at "r";(try simp only [aw,bA,bQ,cc,bh,bz,bE]);try walk_at "dr2"
 refine⟨s,hS,by (try clear c0 ao ha heN hm hpp p2);omega,hpp.1,hpp.2,m,hb,by (try clear c0 ao ha hl hpp p2);omega,λz H1 g1=>qz z (by (try clear c0 ao ha hl hm hpp p2);omega) H1 g1,λhnz c r H1 hc nr g1 k1=>?_⟩
 have q0:=Dr.pow_pos hpp.1 c
 have bfr:=Dr.xg q0 hc.1 hb
 have lfr:(Dr.dJ (p^c) s).length=s.length:=Dr.kY ..
 walk_at "r";(try simp only [aw,bA,bQ,cc,bh,bz,bE]);try walk_at "dr2"
 refine⟨_,az.of k1,by (try clear c0 ao ha heN hm hpp k1 nr p2 q0);omega,by (try clear c0 ao ha heN hm hpp k1 nr p2 q0);omega,m,bfr,by (try clear c0 ao ha hl hpp k1 lfr nr p2 q0);omega,λls H2 hsb _ g2 k2=>?_⟩
 walk_at "r";(try simp only [aw,bA,bQ,cc,bh,bz,bE]);try walk_at "dr2"
 refine⟨hpp.1,hpp.2,by (try clear c0 ao ha hl hm hpp k1 k2 lfr nr p2 q0);omega,by (try clear c0 ao ha hl hm hpp k1 k2 lfr nr p2 q0);omega,?_⟩
 rw [Int.toNat_natCast]
 walk_at "r";(try simp only [aw,bA,bQ,cc,bh,bz,bE]);try walk_at "dr2"
 refine⟨by decide,?_⟩
 intro lb n_lb;generalize e0:upd _ lb _=H4;obtain⟨g4,k4⟩:=cL e0 n_lb;clear e0
 have G4:=(g1.trans g2).trans g4
 walk_at "r";(try simp only [aw,bA,bQ,cc,bh,bz,bE]);try walk_at "dr2"
 refine⟨_,az.of (g4 _ _ (g2 _ _ k1)),by (try clear c0 ao ha heN hm hpp k1 k2 k4 n_lb nr p2 q0);omega,hpp.1,hpp.2,λrr H5 nrr g5 k5=>?_⟩
 have G5:=G4.trans g5
 have kr:=g5 _ _ (g4 _ _ (g2 _ _ k1))
 have ks:=g5 _ _ (g4 _ _ k2)
 have klb:=g5 _ _ k4
 have nlb:H lb=none:=(g1.trans g2).free n_lb
 have nrlb:r≠lb:=λz=>by rw [z] at k1;rw [g2 _ _ k1] at n_lb;cases n_lb
 have nslb:ls≠lb:=λz=>by rw [z,n_lb] at k2;cases k2
 have nrrlb:rr≠lb:=λz=>by rw [z,k4] at nrr;cases nrr
 obtain⟨fr,efr⟩:∃fr,fr=Dr.dJ (p^c) s:=⟨_,rfl⟩
 obtain⟨rs,ers⟩:∃rs,rs=wj p fr:=⟨_,rfl⟩
 rw [←efr] at kr ks k5 bfr lfr hsb
 rw [←ers] at k5
 have hrs:∀x,x∈rs→(0≤x∧x<p)∧Dr.aA fr x%p=0:=λx hx=>by
  rw [ers] at hx
  exact (Dr.pV (by (try clear c0 efr ers ao ha heN hl hm hpp k1 k2 k4 k5 klb kr ks lfr n_lb nlb nr nrlb nrr nrrlb nslb q0);omega)).mp hx
 have hap:rs.Pairwise (λr s=>(s-r)%p≠0):=by
  rw [ers]
  exact Dr.ow _ (by (try clear c0 efr ers ao ha heN hl hm hpp k1 k2 k4 k5 klb kr ks lfr n_lb nlb nr nrlb nrr nrrlb nslb q0);omega)
 have fr0:∃x,x∈fr∧x≠0:=by
  obtain⟨x,hx,x0⟩:=Dr.iZ hc
  rw [←efr] at hx
  exact⟨x,hx,λz=>x0 (by rw [z];simp)⟩
 have sll:(Dr.d7 fr).length≤13:=by rw [Dr.jg (by (try clear c0 efr ers ao ha heN hm hpp k1 k2 k4 k5 klb kr ks n_lb nlb nr nrlb nrr nrrlb nslb p2 q0);omega)];((try clear c0 efr ers ao ha heN hm hpp k1 k2 k4 k5 klb kr ks n_lb nlb nr nrlb nrr nrrlb nslb p2 q0);omega)
 clear k1 k2 k4 g4 g5 g2 g1
 refine⟨⟨_,az.of k5⟩,?_⟩
 obtain⟨Pv,hPv⟩:∃Pv:Nat→St→Hp→Prop,∀i σ H6,Pv i σ H6↔((∀b u,b≠lb→H5 b=some u→H6 b=some u)∧∃(L:List Int) (t9 t10:Option V),H6 lb=some (.lst (L.map V.int))∧Dr.FL p N (Dr.Found p N n') a e fr (rs.take i) L∧σ=[some (V.int p),some (V.int a),some (V.int ↑e),some (V.ref b),some (V.int ↑N),some (V.ref r),some (V.ref ls),some (V.int (p^e)),some (V.ref lb),t9,t10]):=⟨_,λ_ _ _=>Iff.rfl⟩
 refine IJ rs Pv ((hPv _ _ _).mpr ⟨λb u _ h=>h,[],none,none,klb,by rw [List.take_zero];exact .nil,rfl⟩) (λi σ H6 z=>by obtain⟨k6,_⟩:=(hPv _ _ _).mp z;exact az.of (k6 _ _ nrrlb k5)) ?_ ?_
 ·intro i x σ H6 hx z
  obtain⟨k6,L,t9,t10,kb,fl,rfl⟩:=(hPv _ _ _).mp z
  obtain⟨hx1,hx2⟩:=hrs x (List.mem_of_getElem? hx)
  have e1:p^Int.toNat 1=p:=by show p^1=p;rw [Int.pow_succ,Int.pow_zero,Int.one_mul]
  have tk:rs.take (i+1)=rs.take i++[x]:=by rw [List.take_add_one,hx];rfl
  have eQ:=II hp hc (efr▸fl) (λy hy=>efr▸(hrs y (List.mem_of_mem_take hy)).2) (hap.sublist (List.take_sublist ..))
  have bx:Dr.Sm x 11:=fM 1000 (by (try clear c0 efr ers eQ ao ha heN hl hm hpp hx hx2 k5 kb klb kr ks lfr n_lb nlb nr nrlb nrr nrrlb nslb q0 sll tk);omega) (by decide)
  have GH:aL H H6:=λb u hb=>k6 b u (λz=>by rw [z,nlb] at hb;cases hb) (G5 b u hb)
  walk_at "r";(try simp only [aw,bA,bQ,cc,bh,bz,bE]);try walk_at "dr2"
  refine⟨Dr.d7 fr,az.of (k6 _ _ nslb ks),by (try clear c0 e1 efr ers eQ ao ha heN hl hm hpp hx hx1 hx2 k5 kb klb kr ks lfr n_lb nlb nr nrlb nrr nrrlb nslb p2 q0 tk);omega,m+6,hsb,11,bx,by (try clear c0 e1 efr ers eQ ao ha hl hpp hx hx1 hx2 k5 kb klb kr ks lfr n_lb nlb nr nrlb nrr nrrlb nslb p2 q0 sll tk);omega,by decide,by (try clear c0 efr ers eQ ao ha heN hl hm hpp hx hx1 hx2 k5 kb klb kr ks lfr n_lb nlb nr nrlb nrr nrrlb nslb q0 sll tk);omega,?_⟩
  rw [Dr.j3 (by (try clear c0 e1 efr ers eQ ao ha heN hm hpp hx hx1 hx2 k5 kb klb kr ks n_lb nlb nr nrlb nrr nrrlb nslb p2 q0 sll tk);omega)]
  refine cG (λck=>?_) (λck=>?_)
  ·refine⟨⟨_,az.of kb⟩,IntMulOk.of_left (intBits_le_64 (by (try clear c0 ck e1 efr ers eQ ao ha heN hl hm hpp hx hx2 k5 kb klb kr ks lfr n_lb nlb nr nrlb nrr nrrlb nslb p2 q0 sll tk);omega) (by (try clear c0 ck efr ers eQ ao ha heN hl hm hpp hx hx2 k5 kb klb kr ks lfr n_lb nlb nr nrlb nrr nrrlb nslb q0 sll tk);omega)),fr,az.of (k6 _ _ nrlb kr),by (try clear c0 ck e1 efr ers eQ ao ha heN hm hpp hx hx1 hx2 k5 kb klb kr ks n_lb nlb nr nrlb nrr nrrlb nslb p2 q0 sll tk);omega,by (try clear c0 ck e1 efr ers eQ ao ha heN hm hpp hx hx1 hx2 k5 kb klb kr ks n_lb nlb nr nrlb nrr nrrlb nslb p2 q0 sll tk);omega,hpp.1,hpp.2,m,bfr,11,bx,by decide,by decide,by (try clear c0 ck e1 efr ers eQ ao ha hl hpp hx hx1 hx2 k5 kb klb kr ks lfr n_lb nlb nr nrlb nrr nrrlb nslb p2 q0 sll tk);omega,λc3 s1 H7 hs1 _ nc g7 k7=>?_⟩
   rw [e1] at hs1
   have hsl:=hs1.len
   rw [ny]
   have s1n:=Dr.HN (by (try clear c0 ck efr ers eQ ao ha heN hl hm hpp hsl hx hx1 hx2 k5 k7 kb klb kr ks lfr n_lb nc nlb nr nrlb nrr nrrlb nslb q0 sll tk);omega) hs1 fr0
   refine⟨p,a+x*p^e,(e:Int)+1,(N:Int),e+1,N,c3,s1,m+8*fr.length,rfl,by (try clear c0 ck e1 efr ers eQ ao ha heN hl hm hpp hsl hx hx1 hx2 k5 k7 kb klb kr ks lfr n_lb nc nlb nr nrlb nrr nrrlb nslb p2 q0 sll tk);omega,rfl,az.of k7,by (try clear c0 ck e1 efr ers eQ ao ha heN hm hpp hx hx1 hx2 k5 k7 kb klb kr ks n_lb nc nlb nr nrlb nrr nrrlb nslb p2 q0 sll tk);omega,hp,Dr.wJ hpp.1 ha hx1,by (try clear c0 ck e1 efr ers eQ ao ha hl hm hpp hsl hx hx1 hx2 k5 k7 kb klb kr ks lfr n_lb nc nlb nr nrlb nrr nrrlb nslb p2 q0 sll tk);omega,Dr.xk hs1 (by (try clear c0 ck efr ers eQ ao ha heN hl hm hpp hsl hx hx2 k5 k7 kb klb kr ks lfr n_lb nc nlb nr nrlb nrr nrrlb nslb q0 sll tk);omega) (by (try clear c0 ck efr ers eQ ao ha heN hl hm hpp hsl hx hx1 hx2 k5 k7 kb klb kr ks lfr n_lb nc nlb nr nrlb nrr nrrlb nslb q0 sll tk);omega) bfr,by (try clear c0 ck e1 efr ers eQ ao ha heN hpp hx hx1 hx2 k5 k7 kb klb kr ks n_lb nc nlb nr nrlb nrr nrrlb nslb p2 q0 sll tk);omega,λz=>?_,λhd _ H8 g8=>qd ⟨c,x,s1,hc,hx1,efr▸hx2,efr▸ck,efr▸hs1,hd⟩ (λ_=>hnz) H8 (GH.trans (g7.trans g8)),λc2 L2 H8 hf nc2 g8 k8=>?_⟩
   ·obtain⟨y,hy,y0⟩:=s1n
    exact absurd (z y hy) y0
   ·have kb8:=g8 _ _ (g7 _ _ kb)
    have l2:=hf.eQ hp
    refine⟨c2,rfl,_,kb8,_,k8,by rw [List.length_map,List.length_map];unfold sizeLine;((try clear c0 ck e1 efr ers ao ha heN hm hpp hx hx1 hx2 k5 k7 k8 kb kb8 klb kr ks n_lb nc nc2 nlb nr nrlb nrr nrrlb nslb p2 q0 sll tk);omega),(hPv _ _ _).mpr ⟨λb u hb h=>by rw [aI hb];exact g8 _ _ (g7 _ _ (k6 b u hb h)),L++L2,_,_,by rw [aS,List.map_append],?_,rfl⟩⟩
    rw [tk]
    exact .rB fl ck hs1 hf
  ·have sg:Dr.da p fr x 0 (Dr.d6 fr x):=⟨⟨by simp,ck⟩,by rw [Nat.mul_zero,Nat.zero_add,Int.pow_succ,Int.pow_zero,Int.one_mul];exact hx2⟩
   obtain⟨M',eM⟩:∃M':Int,M'=if (0:Int) > (N:Int)-(e:Int) then 0 else (N:Int)-(e:Int):=⟨_,rfl⟩
   have bM:M'.toNat=N-e∧0≤M'∧M'≤60:=by
    rw [eM]
    split<;>((try clear c0 ck e1 eM efr ers eQ ao ha hl hm hpp hx hx1 hx2 k5 kb klb kr ks lfr n_lb nlb nr nrlb nrr nrrlb nslb p2 q0 sll tk);omega)
   have bpe:Dr.Sm (p^e) 611:=(show Dr.Sm (p^e) (10*e+1) from i6 hpp _).mono (by (try clear bM c0 ck e1 eM efr ers eQ ao ha hl hm hpp hx hx1 hx2 k5 kb klb kr ks lfr n_lb nlb nr nrlb nrr nrrlb nslb p2 q0 sll tk);omega)
   have bpm:Dr.Sm (p^(N-e)) 611:=(show Dr.Sm (p^(N-e)) (10*(N-e)+1) from i6 hpp _).mono (by (try clear bM c0 ck e1 eM efr ers eQ ao ha hl hm hpp hx hx1 hx2 k5 kb klb kr ks lfr n_lb nlb nr nrlb nrr nrrlb nslb p2 q0 sll tk);omega)
   have fin:∀(y:Int) (H7:Hp),aL H6 H7→Dr.lK p fr x (N-e) y→IntMulOk (p^e) y∧(∃xs,az K H7 lb xs)∧2≤p∧p<1000∧0≤(N:Int)∧(N:Int)<100000∧0<p^(N:Int).toNat∧∃x_4,H7 lb=some (.lst x_4)∧x_4.length<sizeLine∧Pv (i+1) [some (V.int p),some (V.int a),some (V.int ↑e),some (V.ref b),some (V.int ↑N),some (V.ref r),some (V.ref ls),some (V.int (p^e)),some (V.ref lb),some (V.int x),some (V.int (a+p^e*y))] (upd H7 lb (.lst (x_4++[V.int ((a+p^e*y)%p^(N:Int).toNat)]))):=λy H7 g7 hy=>by
    have by_:Dr.Sm y 611:=by
     have h1:=hy.lo
     have h2:=hy.hi
     unfold Dr.Sm at bpm ⊢
     ((try clear bM c0 ck e1 eM efr ers eQ ao ha heN hl hm hpp hx hx1 hx2 k5 kb klb kr ks lfr n_lb nlb nr nrlb nrr nrrlb nslb p2 q0 sll tk);omega)
    refine⟨mx bpe by_ (by decide),⟨_,az.of (g7 _ _ kb)⟩,hpp.1,hpp.2,by (try clear bM c0 ck e1 eM efr ers eQ ao ha hl hm hpp hx hx1 hx2 k5 kb klb kr ks lfr n_lb nlb nr nrlb nrr nrrlb nslb p2 q0 sll tk);omega,by (try clear bM c0 ck e1 eM efr ers eQ ao ha hl hm hpp hx hx1 hx2 k5 kb klb kr ks lfr n_lb nlb nr nrlb nrr nrrlb nslb p2 q0 sll tk);omega,Dr.pow_pos hpp.1 _,_,g7 _ _ kb,by rw [List.length_map];unfold sizeLine;((try clear bM c0 ck e1 eM efr ers ao ha heN hm hpp hx hx1 hx2 k5 kb klb kr ks n_lb nlb nr nrlb nrr nrrlb nslb p2 q0 sll tk);omega),(hPv _ _ _).mpr ⟨λb u hb h=>by rw [aI hb];exact g7 _ _ (k6 b u hb h),L++[(a+p^e*y)%p^N],_,_,by rw [aS,List.map_append,Int.toNat_natCast];rfl,?_,rfl⟩⟩
    rw [tk]
    exact .leaf fl ck hy
   walk_at "r";(try simp only [aw,bA,bQ,cc,bh,bz,bE]);try walk_at "dr2"
   rw [←eM]
   refine⟨fr,az.of (k6 _ _ nrlb kr),by (try clear bM c0 ck e1 eM efr ers eQ ao ha heN hm hpp hx hx1 hx2 k5 kb klb kr ks n_lb nlb nr nrlb nrr nrrlb nslb p2 q0 sll tk);omega,by (try clear bM c0 ck e1 eM efr ers eQ ao ha heN hm hpp hx hx1 hx2 k5 kb klb kr ks n_lb nlb nr nrlb nrr nrrlb nslb p2 q0 sll tk);omega,hp,m,bfr,11,bx,by (try clear bM c0 ck e1 eM efr ers eQ ao ha hl hpp hx hx1 hx2 k5 kb klb kr ks lfr n_lb nlb nr nrlb nrr nrrlb nslb p2 q0 sll tk);omega,by decide,.inr (.inl ck),bM.2.1,bM.2.2,λH7 g7=>⟨λd u hd=>?_,λhno=>absurd sg (hno _ _)⟩⟩
   obtain rfl:=(hd.jY.uniq hpp.1 sg.jY).1
   refine⟨λhle=>fin _ H7 g7 ?_,λhlt y hy=>fin y H7 g7 ?_⟩
   ·rw [bM.1]
    exact zR hpp.1 (by (try clear c0 ck e1 efr ers eQ ao ha heN hl hm hpp hx hx1 hx2 k5 kb klb kr ks lfr n_lb nlb nr nrlb nrr nrrlb nslb p2 q0 sll tk);omega) hx2
   ·rw [bM.1] at hy
    exact Ex hy
 ·intro σ H6 z
  obtain⟨k6,L,t9,t10,kb,fl,rfl⟩:=(hPv _ _ _).mp z
  rw [List.take_length] at fl
  try walk_at "dr1";(try simp only [aw,bA,bQ,cc,bh,bz,bE]);try walk_at "dr1"
  refine q lb L H6 ⟨c,hc,?_⟩ nlb (λb u hb=>k6 b u (λz=>by rw [z,nlb] at hb;cases hb) (G5 b u hb)) kb
  rw [efr,ers,efr] at fl
  exact fl
def aT (K:PySem.W.Frag):Sp:=λvs H Q E=>∃(p:Int) (b:Addr) (f:List Int) (N:Int) (m:Nat),vs=[.int p,.ref b,.int N]∧az K H b (f.map V.int)∧(0<f.length∧f.length≤13)∧p∈Dr.cm∧(0≤N∧N≤60)∧Dr.bX f m∧m≤2560 ∧
 ((∀x,x∈f→x=0)→∀H',aL H H'→E (.ref (cq K "NoDepth")) none H')∧(Dr.vK p 60 f→(∃x,x∈f∧x≠0)→∀H',aL H H'→E (.ref (cq K "TooDeep")) none H') ∧
 ∀(c:Addr) (L M:List Int) (H':Hp),Dr.Found p N.toNat 60 0 0 f M→L.Perm M→L.Pairwise (·≤·)→H c=none→aL H H'→H' c=some (.lst (L.map V.int))→Q (.ref c) H'
theorem uk (B:Bi mg K w)(kR:gz P w K mg base "roots_within" 65 ["p","a","e","seen","N"] (nY K))(F:cD K "endless_roots" "endless_roots" fC f fd):bc P w K mg base (eh P w) 66 f fd ["p","f","N"] (aT K):=by
 refine F.jM nJ (λvs H Q E h=>?_) (λcdv A outer s H vs Q E hr h=>?_)
 ·obtain⟨p,b,f,N,m,rfl,_⟩:=h
  rfl
 obtain⟨p,b,f,N,m,rfl,hS,hl,hp,hN,hb,hm,qz,qd,q⟩:=h
 have S:=nJ
 refine⟨_,((ak (aC (aZ (yt rfl) rfl B.yr wQ (aa (e8 ig kR hr rfl (aa (pv 0) (aa ag (aa ag (aa (pv 1) (aa (pv 2) ae)))))) ae))))),?_⟩
 have p2:=Dr.cy hp
 try walk_at "dr1";(try simp only [nY]);try walk_at "dr1"
 refine⟨p,0,0,N,0,N.toNat,b,f,m,rfl,rfl,(Int.toNat_of_nonneg hN.1).symm,hS,hl,hp,by simp,by omega,hb,by omega,λz _=>qz z,λd hz=>qd d (hz (by decide)),λc L H1 hf nc g1 k1=>?_⟩
 have eQ:=hf.eQ hp
 refine⟨c,rfl,L,az.of k1,by omega,λms hms hso=>?_⟩
 intro l n_l;generalize e0:upd _ l _=H2;obtain⟨g2,k2⟩:=cL e0 n_l;clear e0
 exact q l ms L H2 hf hms hso (g1.free n_l) (g1.trans g2) k2
theorem xl:∀{L M:List Int},L.Pairwise (·≤·)→M.Pairwise (·≤·)→L.Perm M→L=M
 | [],M,_,_,h=>(List.Perm.nil_eq h)
 | x::L,M,hL,hM,h=>by
  have hx:x∈M:=h.mem_iff.mp (List.mem_cons_self ..)
  match M,hM,h,hx with
  | y::M,hM,h,hx=>
   obtain⟨l1,l2⟩:=List.pairwise_cons.mp hL
   obtain⟨m1,m2⟩:=List.pairwise_cons.mp hM
   have e:x=y:=by
    have h1:y≤x:=by
     rcases List.mem_cons.mp hx with z|z
     ·omega
     ·exact m1 x z
    have h2:x≤y:=by
     rcases List.mem_cons.mp (h.mem_iff.mpr (List.mem_cons_self ..)) with z|z
     ·omega
     ·exact l1 y z
    omega
   subst e
   rw [xl l2 m2 (List.Perm.cons_inv h)]
def cC (K:PySem.W.Frag):Sp:=λvs H Q _=>∃(p:Int) (b:Addr) (f:List Int) (N:Int) (m:Nat),vs=[.int p,.ref b,.int N]∧az K H b (f.map V.int)∧f.length≤60∧(2≤p∧p<1000)∧(0≤N∧N<1000)∧Dr.bX f m∧m≤10000 ∧
 ∀(t:Bool) (H':Hp),(t=true↔∀y:Int,0≤y→y<(f.length:Int)→Dr.aA f y%p^N.toNat=0)→aL H H'→Q (.bl t) H'
theorem ot (B:Bi mg K w)(bZ:Def P w K mg base "power_of" 1 ["p","e"] (aw K))(eO:Def P w K mg base "worth_at" 1 ["f","x"] (bA K))(F:cD K "divides_every_worth" "divides_every_worth" dP f fd):bc P w K mg base cY 2 f fd ["p","f","N"] (cC K):=by
 refine F.ok jX (λvs H Q E h=>?_) (λcdv A outer s H vs Q E hr h=>?_)
 ·obtain⟨p,b,f,N,m,rfl,_⟩:=h
  rfl
 obtain⟨p,b,f,N,m,rfl,hS,hl,hp,hN,hb,hm,q⟩:=h
 have S:=jX
 refine⟨_,((af (aB (i:=3) S.nd rfl (Or.inr rfl) (aD bZ hr rfl (aa (pv 0) (aa (pv 2) ae))))
  (ak (aC (aZ (nP rfl) rfl B.x8 uV (aa (eU [1,3] ["f","power"] rfl rfl ⟨rfl,rfl,trivial⟩ ⟨rfl,rfl,rfl,rfl,rfl,rfl,rfl,rfl,trivial⟩ rfl rfl (by decide) (by decide) rfl rfl (by decide) (h8 rfl B.fO (aa (aZ cv rfl B.eI PySem.boot_len (aa (pv 1) ae)) ae)) (λ_ _ _ _=>dG) (λ_ _ _ _=>(mH cP (av cp (aD eO hr rfl (aa (pv 1) (aa (pv 0) ae))) (pv 2)) ag (aQ _)))) ae)))))),?_⟩
 walk_at "r";(try simp only [aw,bA]);try walk_at "dr2"
 refine⟨hp.1,hp.2,hN.1,by omega,_,.inl hS,?_⟩
 simp only [List.length_map]
 refine⟨by omega,by omega,?_⟩
 rw [Int.toNat_natCast]
 obtain⟨Pc,hPc⟩:∃Pc:Nat→List V→Hp→Prop,∀i ys H2,Pc i ys H2↔(H2=H∧ys=((List.range i).map λk:Nat=>decide (Dr.aA f (k:Int)%p^N.toNat=0)).map V.bl):=⟨_,λ_ _ _=>Iff.rfl⟩
 refine yb Pc (by unfold sizeLine;omega) ((hPc _ _ _).mpr ⟨rfl,rfl⟩) ?_ ?_
 ·intro i ys H2 hi z
  obtain⟨rfl,rfl⟩:=(hPc _ _ _).mp z
  try walk_at "dr1";(try simp only [aw,bA]);try walk_at "dr1"
  refine⟨_,hS,by omega,m,hb,10,fM 1000 (by omega) (by decide),by omega,by decide,Dr.pow_pos hp.1 _,?_⟩
  rw [Int.zero_add]
  exact (hPc _ _ _).mpr ⟨rfl,by rw [List.range_succ,List.map_append,List.map_append];rfl⟩
 ·intro ys H2 z
  obtain⟨rfl,rfl⟩:=(hPc _ _ _).mp z
  intro r n_r;generalize e0:upd _ r _=H3;obtain⟨g3,k3⟩:=cL e0 n_r;clear e0
  refine⟨_,rfl,_,az.of k3,q _ H3 ?_ g3⟩
  rw [List.all_map,List.all_eq_true]
  constructor
  ·intro z y h0 h1
   have:=z y.toNat (List.mem_range.mpr (by omega))
   simp only [Function.comp,id,decide_eq_true_eq] at this
   rwa [Int.toNat_of_nonneg h0] at this
  ·intro z k hk
   have:=List.mem_range.mp hk
   simp only [Function.comp,id,decide_eq_true_eq]
   exact z (k:Int) (by omega) (by omega)
def eS (K:PySem.W.Frag)(n:Nat):Sp:=λvs H Q _=>∃(p a e' N':Int) (e:Nat) (s:Addr) (g:List Int) (N m:Nat) (Sol:Int→Prop),vs=[.int p,.int a,.int e',.ref s,.int N']∧e'=(e:Int)∧N'=(N:Int)∧az K H s (g.map V.int)∧(0<g.length∧g.length≤13)∧p∈Dr.cm∧(0≤a∧a<p^e)∧(e+n≤200∧N≤200) ∧
 (((∀x,x∈g→x%p=0)∧N≤n)∨N+1≤n)∧Dr.bX g m∧m+104*n≤8800∧(∀y,Sol (a+p^e*y)↔Dr.aA g y%p^N=0) ∧
 ∀(c:Addr) (as:List Addr) (bs:List (Int×Nat)) (H':Hp),Dr.Tree p a e Sol bs→Dr.Bx p g bs.length→((∀x,x∈g→x=0)→bs.length≤1)→H c=none→aL H H'→H' c=some (.lst (as.map V.ref))→di H' as bs→Q (.ref c) H'
abbrev jz (K:PySem.W.Frag):Sp:=eS K 62
theorem FA {H:Hp}{l:Addr}{xs:List V}{o:HO}{as:List Addr}{bs:List (Int×Nat)}(h:H l=some (.lst xs))(hP:di H as bs):di (upd H l o) as bs:=⟨hP.1,λi a b e1 e2=>by
 have k:=hP.2 i a b e1 e2
 rw [aI λz=>by rw [z,h] at k;cases k]
 exact k⟩
theorem nI (B:Bi mg K w)(bZ:Def P w K mg base "power_of" 1 ["p","e"] (aw K))(jJ:Def P w K mg base "seen_from" 2 ["p","f","a","e"] (cc K))(mS:gz P w K mg base "content_of" 2 ["p","f"] (cX K))(jB:gz P w K mg base "without_content" 3 ["p","f"] (bh K))(jU:Def P w K mg base "rests_by_prime" 2 ["p","f"] (bz K))(oO:Def P w K mg base "divides_every_worth" 2 ["p","f","N"] (cC K)){n:Nat}(gA:Def P w K mg base "solving_balls_within" (3+n) ["p","a","e","seen","N"] (ny (eS K) n))(F:cD K "solving_balls_within" "solving_balls_within" dH f fd):bc P w K mg base cY (3+n+1) f fd ["p","a","e","seen","N"] (eS K n):=by
 refine F.ok jI (λvs H Q E h=>?_) (λcdv A outer s H vs Q E hr h=>?_)
 ·obtain⟨p,a,e',N',e,s,g,N,m,Sol,rfl,_⟩:=h
  rfl
 obtain⟨p,a,e',N',e,s,g,N,m,Sol,rfl,rfl,rfl,hS,hl,hp,ha,heN,hn,hb,hm,hlink,q⟩:=h
 have S:=jI
 refine⟨_,((af (bN (gx (aD oO hr rfl (aa (pv 0) (aa (pv 3) (aa (pv 4) ae))) (hjk:=by ((try clear ha heN hl hm hn);omega)))) (ak (aC (dS (aa (kC (aa (pv 1) (aa (pv 2) ae))) ae)))) aR)
  (af (aB (i:=5) S.nd rfl (Or.inl rfl) (av ft (pv 4) (e8 oU mS hr rfl (aa (pv 0) (aa (pv 3) ae)) (hjk:=by ((try clear ha heN hl hm hn);omega)))))
  (af (aB (i:=6) S.nd rfl (Or.inl rfl) (e8 oU jB hr rfl (aa (pv 0) (aa (pv 3) ae)) (hjk:=by ((try clear ha heN hl hm hn);omega))))
  (af (aB (i:=7) S.nd rfl (Or.inl rfl) (aD bZ hr rfl (aa (pv 0) (aa (pv 2) ae)) (hjk:=by ((try clear ha heN hl hm hn);omega))))
  (af (aB (i:=8) S.nd rfl (Or.inl rfl) (dS ae))
  (af (fK PassesOwn.never rfl (d3 (aD jU hr rfl (aa (pv 0) (aa (pv 6) ae)) (hjk:=by ((try clear ha heN hl hm hn);omega)))) (cI (i:=9) S.nd rfl (Or.inl rfl)) (ak (mJ (jf PySem.F.plainAttrs_list PySem.F.slot_list_extend PySem.F.type_list_extend xb (pv 8) (aa (aD gA hr rfl (aa (pv 0) (aa (av cS (pv 1) (av cA (pv 9) (pv 7))) (aa (av cS (pv 2) ag) (aa (aD jJ hr rfl (aa (pv 0) (aa (pv 6) (aa (pv 9) (aa ag ae)))) (hjk:=by ((try clear ha heN hl hm hn);omega))) (aa (pv 5) ae))))) (hjk:=by ((try clear ha heN hl hm hn);omega))) ae)))))
  (ak (aC (pv 8)))))))))),?_⟩
 have p2:=Dr.cy hp
 have hpp:2≤p∧p<1000:=by ((try clear ha heN hl hm hn);omega)
 walk_at "r";(try simp only [aw,cc,cX,bh,bz,cC]);try walk_at "dr2"
 refine⟨g,hS,by (try clear ha heN hm hn hpp p2);omega,hpp.1,hpp.2,by (try clear ha hl hm hn hpp p2);omega,by (try clear ha hl hm hn hpp p2);omega,m,hb,by (try clear ha hl hn hpp p2);omega,λt H1 ht g1=>?_⟩
 rw [Int.toNat_natCast] at ht
 refine cG (λc=>?_) (λc=>?_)
 ·
  refine⟨by decide,?_⟩
  intro l1 n_l1;generalize e0:upd _ l1 _=H2;obtain⟨g2,k2⟩:=cL e0 n_l1;clear e0
  refine⟨by decide,?_⟩
  intro l2 n_l2;generalize e0:upd _ l2 _=H3;obtain⟨g3,k3⟩:=cL e0 n_l2;clear e0
  have G:=g1.trans (g2.trans g3)
  have all:=Dr.uS g.length g rfl (ht.mp c)
  refine q l2 [l1] [(a,e)] H3 (Dr.Tree.leaf ha λx hx=>?_) (Dr.Bx.one p g) (λ_=>Nat.le_refl _) ((g1.trans g2).free n_l2) G k3 (di.one (b:=(a,e)) (g3 _ _ k2))
  obtain⟨y,ey⟩:=Int.dvd_of_emod_eq_zero hx
  have:x=a+p^e*y:=by ((try clear c ha heN hl hm hn hpp ht hx k2 k3 n_l1 n_l2 p2);omega)
  rw [this,hlink]
  exact all y
 have nall:¬∀y:Int,0≤y→y<(g.length:Int)→Dr.aA g y%p^N=0:=λz=>c (ht.mpr z)
 obtain⟨hne,hnz,hN0⟩:=Dr.Hl hlink nall
 walk_at "r";(try simp only [aw,cc,cX,bh,bz,cC]);try walk_at "dr2"
 refine⟨g,g1.seq hS,by (try clear c hN0 ha heN hm hn hpp ht nall p2);omega,hpp.1,hpp.2,λ_ c0 H2 hc0 g2=>?_,λz=>?_⟩
 case refine_2=>
  obtain⟨x,hx,n⟩:=hnz
  exact absurd (z x hx) n
 have stp:=Dr.Step.mk' hpp.1 hc0 hlink hne
 have cN:=stp.cN
 have G2:=g1.trans g2
 walk_at "r";(try simp only [aw,cc,cX,bh,bz,cC]);try walk_at "dr2"
 refine⟨g,G2.seq hS,by (try clear c cN hN0 ha heN hm hn hpp ht nall p2);omega,hpp.1,hpp.2,m,hb,by (try clear c cN hN0 ha hl hn hpp ht nall p2);omega,(λz=>by obtain⟨x,hx,n⟩:=hnz;exact absurd (z x hx) n),λ_ c1 r H3 hc1 nr g3 k3=>?_⟩
 cases hc0.uniq hpp.1 hc1
 clear hc1
 have G3:=G2.trans g3
 have q0:=Dr.pow_pos hpp.1 c0
 have bfr:=Dr.xg q0 hc0.1 hb
 have lfr:(Dr.dJ (p^c0) g).length=g.length:=Dr.kY ..
 walk_at "r";(try simp only [aw,cc,cX,bh,bz,cC]);try walk_at "dr2"
 refine⟨hpp.1,hpp.2,by (try clear c cN hN0 ha heN hl hm hn hpp ht k3 lfr nall nr p2 q0);omega,by (try clear c cN hN0 ha hl hm hn hpp ht k3 lfr nall nr p2 q0);omega,?_⟩
 rw [Int.toNat_natCast]
 walk_at "r";(try simp only [aw,cc,cX,bh,bz,cC]);try walk_at "dr2"
 refine⟨by decide,?_⟩
 intro lb n_lb;generalize e0:upd _ lb _=H4;obtain⟨g4,k4⟩:=cL e0 n_lb;clear e0
 have G4:=G3.trans g4
 walk_at "r";(try simp only [aw,cc,cX,bh,bz,cC]);try walk_at "dr2"
 refine⟨_,az.of (g4 _ _ k3),by (try clear c cN hN0 ha heN hm hn hpp ht k3 k4 n_lb nall nr p2 q0);omega,hpp.1,hpp.2,λrr H5 nrr g5 k5=>?_⟩
 obtain⟨n',rfl⟩:∃n',n=n'+1:=⟨n-1,by (try clear c cN ha hl hm hpp ht k3 k4 k5 lfr n_lb nall nr nrr p2 q0);omega⟩
 have G5:=G4.trans g5
 have kr:=g5 _ _ (g4 _ _ k3)
 have klb:=g5 _ _ k4
 have nlb:H lb=none:=G3.free n_lb
 have nrlb:r≠lb:=λz=>by rw [z,n_lb] at k3;cases k3
 have nrrlb:rr≠lb:=λz=>by rw [z,k4] at nrr;cases nrr
 obtain⟨fr,efr⟩:∃fr,fr=Dr.dJ (p^c0) g:=⟨_,rfl⟩
 obtain⟨rs,ers⟩:∃rs,rs=wj p fr:=⟨_,rfl⟩
 rw [←efr] at kr k5 bfr lfr
 rw [←ers] at k5
 have hrs:∀x,x∈rs→(0≤x∧x<p)∧Dr.aA fr x%p=0:=λx hx=>by
  rw [ers] at hx
  obtain⟨h1,h2⟩:=List.mem_filter.mp hx
  obtain⟨k,hk,rfl⟩:=List.mem_map.mp h1
  have:=List.mem_range.mp hk
  exact⟨by (try clear c cN efr ers h2 hN0 ha heN hl hm hn hpp ht k3 k4 k5 klb kr lfr n_lb nall nlb nr nrlb nrr nrrlb q0);omega,by simpa using h2⟩
 have hap:rs.Pairwise (λr s=>(s-r)%p≠0):=by
  rw [ers]
  exact Dr.ow _ (by (try clear c cN efr ers hN0 ha heN hl hm hn hpp ht k3 k4 k5 klb kr lfr n_lb nall nlb nr nrlb nrr nrrlb q0);omega)
 refine⟨⟨_,az.of k5⟩,?_⟩
 obtain⟨Pv,hPv⟩:∃Pv:Nat→St→Hp→Prop,∀i σ H6,Pv i σ H6↔((∀b u,b≠lb→H5 b=some u→H6 b=some u)∧∃(as:List Addr) (bs:List (Int×Nat)) (t9:Option V),H6 lb=some (.lst (as.map V.ref))∧di H6 as bs∧Dr.Part p a e Sol (rs.take i) bs∧Dr.Got p fr (rs.take i) bs.length∧σ=[some (V.int p),some (V.int a),some (V.int ↑e),some (V.ref s),some (V.int ↑N),some (V.int (↑N-↑c0)),some (V.ref r),some (V.int (p^e)),some (V.ref lb),t9]):=⟨_,λ_ _ _=>Iff.rfl⟩
 refine IJ rs Pv ((hPv _ _ _).mpr ⟨λb u _ h=>h,[],[],none,klb,di.nil _,by rw [List.take_zero];exact Dr.Part.nil,by rw [List.take_zero];exact Dr.Got.nil _ _,rfl⟩) (λi σ H6 z=>by obtain⟨k6,_⟩:=(hPv _ _ _).mp z;exact az.of (k6 _ _ nrrlb k5)) ?_ ?_
 ·intro i x σ H6 hx z
  obtain⟨k6,as,bs,t9,kb,hP,hpt,hgt,rfl⟩:=(hPv _ _ _).mp z
  obtain⟨hx1,hx2⟩:=hrs x (List.mem_of_getElem? hx)
  have e1:p^Int.toNat 1=p:=by show p^1=p;rw [Int.pow_succ,Int.pow_zero,Int.one_mul]
  have hlb1:=((efr▸hgt:Dr.Got p (Dr.dJ (p^c0) g) (rs.take i) bs.length).cnt hp hc0 (hap.sublist (List.take_sublist ..))).2
  have tk:rs.take (i+1)=rs.take i++[x]:=by rw [List.take_add_one,hx];rfl
  have ne:∀y,y∈rs.take i→0≤y∧y<p∧y≠x:=λy hy=>by
   obtain⟨h1,_⟩:=hrs y (List.mem_of_mem_take hy)
   refine⟨h1.1,h1.2,λz=>?_⟩
   have h2:(rs.take i++rs.drop i).Pairwise (λr s=>(s-r)%p≠0):=by rw [List.take_append_drop];exact hap
   have h3:x∈rs.drop i:=List.mem_of_getElem? (i:=0) (by rw [List.getElem?_drop];exact hx)
   have h4:=(List.pairwise_append.mp h2).2.2 y hy x h3
   rw [z,Int.sub_self] at h4
   exact h4 (by simp)
  try walk_at "dr1";(try simp only [aw,cc,cX,bh,bz,cC]);try walk_at "dr1"
  refine⟨⟨_,az.of kb⟩,IntMulOk.of_left (intBits_le_64 (by (try clear c cN e1 efr ers hN0 ha heN hl hlb1 hm hn hpp ht hx hx2 k3 k4 k5 kb klb kr lfr n_lb nall nlb nr nrlb nrr nrrlb p2 q0 tk);omega) (by (try clear c cN efr ers hN0 ha heN hl hlb1 hm hn hpp ht hx hx2 k3 k4 k5 kb klb kr lfr n_lb nall nlb nr nrlb nrr nrrlb q0 tk);omega)),fr,az.of (k6 _ _ nrlb kr),by (try clear c cN e1 efr ers hN0 ha heN hlb1 hm hn hpp ht hx hx1 hx2 k3 k4 k5 kb klb kr n_lb nall nlb nr nrlb nrr nrrlb p2 q0 tk);omega,by (try clear c cN e1 efr ers hN0 ha heN hlb1 hm hn hpp ht hx hx1 hx2 k3 k4 k5 kb klb kr n_lb nall nlb nr nrlb nrr nrrlb p2 q0 tk);omega,hpp.1,hpp.2,m,bfr,11,fM 1000 (by (try clear c cN efr ers hN0 ha heN hl hlb1 hm hn hpp ht hx hx2 k3 k4 k5 kb klb kr lfr n_lb nall nlb nr nrlb nrr nrrlb q0 tk);omega) (by decide),by decide,by decide,by (try clear c cN e1 efr ers hN0 ha hl hlb1 hn hpp ht hx hx1 hx2 k3 k4 k5 kb klb kr lfr n_lb nall nlb nr nrlb nrr nrrlb p2 q0 tk);omega,λc s1 H7 hs1 _ nc g7 k7=>?_⟩
  rw [e1] at hs1
  have hsl:=hs1.len
  rw [ny]
  refine⟨p,a+x*p^e,(e:Int)+1,(N:Int)-c0,e+1,c,s1,N-c0,m+8*fr.length,Sol,rfl,by (try clear cN e1 efr ers hN0 ha heN hl hlb1 hm hn hpp hsl ht hx hx1 hx2 k3 k4 k5 k7 kb klb kr lfr n_lb nall nc nlb nr nrlb nrr nrrlb p2 q0 tk);omega,by (try clear e1 efr ers hN0 ha heN hl hlb1 hm hn hpp hsl ht hx hx1 hx2 k3 k4 k5 k7 kb klb kr lfr n_lb nall nc nlb nr nrlb nrr nrrlb p2 q0 tk);omega,az.of k7,by (try clear cN e1 efr ers hN0 ha heN hlb1 hm hn hpp ht hx hx1 hx2 k3 k4 k5 k7 kb klb kr n_lb nall nc nlb nr nrlb nrr nrrlb p2 q0 tk);omega,hp,Dr.wJ hpp.1 ha hx1,by (try clear e1 efr ers ha hl hlb1 hm hn hpp hsl ht hx hx1 hx2 k3 k4 k5 k7 kb klb kr lfr n_lb nall nc nlb nr nrlb nrr nrrlb p2 q0 tk);omega,.inl ⟨Dr.HM hs1 hx2,?_⟩,Dr.xk hs1 (by (try clear cN efr ers hN0 ha heN hl hlb1 hm hn hpp hsl ht hx hx2 k3 k4 k5 k7 kb klb kr lfr n_lb nall nc nlb nr nrlb nrr nrrlb q0 tk);omega) (by (try clear cN efr ers hN0 ha heN hl hlb1 hm hn hpp hsl ht hx hx1 hx2 k3 k4 k5 k7 kb klb kr lfr n_lb nall nc nlb nr nrlb nrr nrrlb q0 tk);omega) bfr,by (try clear cN e1 efr ers hN0 ha heN hlb1 hn hpp ht hx hx1 hx2 k3 k4 k5 k7 kb klb kr n_lb nall nc nlb nr nrlb nrr nrrlb p2 q0 tk);omega,stp.seen (efr▸hs1),λc2 as2 bs2 H8 ht hc2 hz2 nc2 g8 k8 hP8=>?_⟩
  ·rcases hn with⟨hd,h⟩|h
   ·have:=hc0.le hpp.1 (c':=1) λy hy=>by rw [Int.pow_succ,Int.pow_zero,Int.one_mul];exact hd y hy
    ((try clear e1 efr ers hN0 ha heN hl hlb1 hm hpp hsl ht hx hx1 hx2 k3 k4 k5 k7 kb klb kr lfr n_lb nall nc nlb nr nrlb nrr nrrlb p2 q0 tk);omega)
   ·((try clear e1 efr ers hN0 ha heN hl hlb1 hm hpp hsl ht hx hx1 hx2 k3 k4 k5 k7 kb klb kr lfr n_lb nall nc nlb nr nrlb nrr nrrlb p2 q0 tk);omega)
  ·have kb8:=g8 _ _ (g7 _ _ kb)
   have hl2:=hc2.2
   have ha1:=hP.1
   have ha2:=hP8.1
   refine⟨c2,rfl,_,kb8,_,k8,by rw [List.length_map,List.length_map];unfold sizeLine;((try clear cN e1 efr ers hN0 ha heN hm hn hpp hx hx1 hx2 k3 k4 k5 k7 k8 kb kb8 klb kr n_lb nall nc nc2 nlb nr nrlb nrr nrrlb p2 q0 tk);omega),(hPv _ _ _).mpr ⟨λb u hb h=>by rw [aI hb];exact g8 _ _ (g7 _ _ (k6 b u hb h)),as++as2,bs++bs2,_,by rw [aS,List.map_append],?_,?_,?_,rfl⟩⟩
   ·exact FA kb8 (((hP.same g7).same g8).app hP8)
   ·rw [tk]
    exact hpt.more hpp.1 ne hx1 ht stp.cU
   ·rw [tk,List.length_append]
    exact hgt.more hpp.1 hx2 hs1 hc2 hz2 (Hc hpp.1)
 ·intro σ H6 z
  obtain⟨k6,as,bs,t9,kb,hP,hpt,hgt,rfl⟩:=(hPv _ _ _).mp z
  rw [List.take_length] at hpt hgt
  try walk_at "dr1";(try simp only [aw,cc,cX,bh,bz,cC]);try walk_at "dr1"
  refine q lb as bs H6 (hpt.tree λx hx sol=>?_) ((efr▸hgt:Dr.Got p (Dr.dJ (p^c0) g) rs bs.length).cnt hp hc0 hap) (λz=>?_) nlb (λb u hb=>?_) kb hP
  ·obtain⟨r0,⟨h1,h2,h3⟩,h4⟩:=stp.all hpp.1 hx sol
   refine⟨r0,?_,h4⟩
   rw [ers,efr]
   refine List.mem_filter.mpr ⟨List.mem_map.mpr ⟨r0.toNat,List.mem_range.mpr (by (try clear c cN efr ers h1 h3 h4 hN0 ha heN hl hm hn hpp ht hx k3 k4 k5 kb klb kr lfr n_lb nall nlb nr nrlb nrr nrrlb q0);omega),by (try clear c cN efr ers h2 h3 h4 hN0 ha heN hl hm hn hpp ht hx k3 k4 k5 kb klb kr lfr n_lb nall nlb nr nrlb nrr nrrlb p2 q0);omega⟩,by simpa using h3⟩
  ·obtain⟨x,hx,n⟩:=hnz
   exact absurd (z x hx) n
  ·exact k6 b u (λz=>by rw [z,nlb] at hb;cases hb) (G5 b u hb)
def aO (K:PySem.W.Frag):Sp:=λvs H Q _=>∃(p:Int) (b:Addr) (f:List Int) (N:Int) (m:Nat),vs=[.int p,.ref b,.int N]∧az K H b (f.map V.int)∧(0<f.length∧f.length≤13)∧p∈Dr.cm∧(0≤N∧N≤60)∧Dr.bX f m∧m≤2300 ∧
 ∀(c:Addr) (as:List Addr) (bs:List (Int×Nat)) (H':Hp),Dr.Solve p (λx=>Dr.aA f x%p^N.toNat=0) bs→bs.length≤13→(∀b,b∈bs→b.2≤N.toNat)→H c=none→aL H H'→H' c=some (.lst (as.map V.ref))→di H' as bs→Q (.ref c) H'
theorem um (B:Bi mg K w)(gA:Def P w K mg base "solving_balls_within" 66 ["p","a","e","seen","N"] (jz K))(F:cD K "solving_balls" "solving_balls" fD f fd):bc P w K mg base cY 67 f fd ["p","f","N"] (aO K):=by
 refine F.ok nK (λvs H Q E h=>?_) (λcdv A outer s H vs Q E hr h=>?_)
 ·obtain⟨p,b,f,N,m,rfl,_⟩:=h
  rfl
 obtain⟨p,b,f,N,m,rfl,hS,hl,hp,hN,hb,hm,q⟩:=h
 have S:=nK
 refine⟨_,((ak (aC (aZ (yu rfl) rfl B.yr wQ (aa (aD gA hr rfl (aa (pv 0) (aa ag (aa ag (aa (pv 1) (aa (pv 2) ae)))))) ae))))),?_⟩
 try walk_at "dr1";(try simp only [jz]);try walk_at "dr1"
 have p2:=Dr.cy hp
 refine⟨p,0,0,N,0,b,f,N.toNat,m,λx=>Dr.aA f x%p^N.toNat=0,rfl,rfl,(Int.toNat_of_nonneg hN.1).symm,hS,hl,hp,by simp,by omega,.inr (by omega),hb,by omega,λy=>by simp,λc as bs H' ht hc _ nc g1 k1 hP=>?_⟩
 have hd:=ht.depth (Nat.zero_le _)
 have hlen:bs.length≤13:=by have:=hc.2;omega
 refine⟨c,rfl,as,az.of k1,bs,hP,by omega,λb hb=>by have:=hd b hb;omega,ht.ne,λas' bs' hp' inc hP'=>?_⟩
 intro l n_l;generalize e0:upd _ l _=H2;obtain⟨g2,k2⟩:=cL e0 n_l;clear e0
 exact q l as' bs' H2 ⟨ht.perm hp'.symm,inc⟩ (by rw [hp'.length_eq];exact hlen) (λb hb=>hd b (hp'.mem_iff.mp hb)) (g1.free n_l) (g1.trans g2) k2 (hP'.same g2)
def aX (K:PySem.W.Frag):Sp:=λvs H Q _=>∃(p:Int) (b:Addr) (f:List Int) (N:Int) (m:Nat),vs=[.int p,.ref b,.int N]∧az K H b (f.map V.int)∧(0<f.length∧f.length≤13)∧p∈Dr.cm∧(0≤N∧N≤60)∧Dr.bX f m∧m≤2300 ∧
 ∀(bs:List (Int×Nat)) (H':Hp),Dr.Solve p (λx=>Dr.aA f x%p^N.toNat=0) bs→bs.length≤13→aL H H'→Q (.int ((Dr.kx p N.toNat bs:Nat):Int)) H'
theorem uo (B:Bi mg K w)(bZ:Def P w K mg base "power_of" 1 ["p","e"] (aw K))(gw:Def P w K mg base "solving_balls" 67 ["p","f","N"] (aO K))(F:cD K "solving_rests" "solving_rests" fE f fd):bc P w K mg base cY 68 f fd ["p","f","N"] (aX K):=by
 refine F.ok nL (λvs H Q E h=>?_) (λcdv A outer s H vs Q E hr h=>?_)
 ·obtain⟨p,b,f,N,m,rfl,_⟩:=h
  rfl
 obtain⟨p,b,f,N,m,rfl,hS,hl,hp,hN,hb,hm,q⟩:=h
 have S:=nL
 refine⟨_,((ak (aC (aZ (DA rfl) rfl B.JN Iy (aa (eU [2,0] ["N","p"] rfl rfl ⟨rfl,rfl,trivial⟩ ⟨rfl,rfl,rfl,rfl,rfl,rfl,rfl,rfl,trivial⟩ rfl rfl (by decide) (by decide) rfl rfl (by decide) (d3 (aD gw hr rfl (aa (pv 0) (aa (pv 1) (aa (pv 2) ae))))) (λ_ _ _ _=>dG) (λ_ _ _ _=>(aD bZ hr rfl (aa (pv 2) (aa (av ft (pv 1) (ba (Hi (K:=K) rfl) (pv 0) ag (λ_ _=>rfl))) ae))))) ae))))),?_⟩
 try walk_at "dr1";(try simp only [aw,aO]);try walk_at "dr1"
 have p2:=Dr.cy hp
 refine⟨f,hS,hl.1,hl.2,hp,hN.1,hN.2,m,hb,hm,λc as bs H1 hs hlen hd nc g1 k1 hP=>⟨⟨_,az.of k1⟩,?_⟩⟩
 have hal:as.length=bs.length:=hP.1
 obtain⟨Pc,hPc⟩:∃Pc:Nat→List V→Hp→Prop,∀i ys H2,Pc i ys H2↔(H2=H1∧ys=((bs.take i).map λb=>p^(N.toNat-b.2)).map V.int):=⟨_,λ_ _ _=>Iff.rfl⟩
 refine Gq (as.map V.ref) Pc (by rw [List.length_map];unfold sizeLine;omega) ((hPc _ _ _).mpr ⟨rfl,rfl⟩) (λi ys H2 z=>by obtain⟨rfl,_⟩:=(hPc _ _ _).mp z;exact az.of k1) ?_ ?_
 ·intro i x ys H2 hx z
  obtain⟨rfl,rfl⟩:=(hPc _ _ _).mp z
  rw [List.getElem?_map] at hx
  obtain⟨a,ha,rfl⟩:∃a,as[i]?=some a∧V.ref a=x:=by
   cases w:as[i]? with
   | none=>rw [w] at hx;cases hx
   | some a=>rw [w] at hx;exact⟨a,rfl,Option.some.inj hx⟩
  obtain⟨bl,hbl,hka⟩:=hP.get ha
  have hdb:=hd bl (List.mem_of_getElem? hbl)
  try walk_at "dr1";(try simp only [aw,aO]);try walk_at "dr1"
  refine⟨_,dC.of hka,_,rfl,_,rfl,by omega,by omega,by omega,by omega,(hPc _ _ _).mpr ⟨rfl,?_⟩⟩
  rw [List.take_add_one,hbl,List.map_append,List.map_append]
  simp only [Option.toList_some,List.map_cons,List.map_nil]
  rw [show (N-(bl.2:Int)).toNat=N.toNat-bl.2 by omega]
 ·intro ys H2 z
  obtain⟨rfl,rfl⟩:=(hPc _ _ _).mp z
  intro r n_r;generalize e0:upd _ r _=H3;obtain⟨g3,k3⟩:=cL e0 n_r;clear e0
  refine⟨_,rfl,_,az.of k3,?_⟩
  have e:(bs.take (as.map V.ref).length)=bs:=by rw [List.length_map,hal,List.take_length]
  rw [e,Dr.D5 p2.1]
  exact q bs H3 hs hlen (g1.trans g3)
def jS (_:PySem.W.Frag):Sp:=λvs H Q _=>∃(x y:Addr) (s t:Int×Int) (m:Nat),vs=[.ref x,.ref y]∧H x=some (.tup [.int s.1,.int s.2])∧H y=some (.tup [.int t.1,.int t.2])∧(Dr.Sm s.1 m∧Dr.Sm s.2 m∧Dr.Sm t.1 m∧Dr.Sm t.2 m∧m≤10000)∧Q (.bl (decide (Dr.Gm t s))) H
theorem xM (B:Bi mg K w)(F:cD K "rises_more" "rises_more" gU f fd):bc P w K mg base cY 1 f fd ["side","ahead"] (jS K):=by
 refine F.ok qP (λvs H Q E h=>?_) (λcdv A outer s H vs Q E hr h=>?_)
 ·obtain⟨x,y,s,t,m,rfl,_⟩:=h
  rfl
 obtain⟨x,y,sd,t,m,rfl,hx,hy,⟨h1,h2,h3,h4,h5⟩,q⟩:=h
 have S:=qP
 refine⟨_,((ak (aC (mH lF (av cA (ba cR (pv 0) ag (λ_ _=>rfl)) (ba cR (pv 1) ag (λ_ _=>rfl))) (av cA (ba cR (pv 1) ag (λ_ _=>rfl)) (ba cR (pv 0) ag (λ_ _=>rfl))) (aQ _))))),?_⟩
 try walk_at "dr1"
 exact⟨_,dC.of hx,_,rfl,_,dC.of hy,_,rfl,_,rfl,_,rfl,mx h2 h3 (by omega),_,dC.of hy,_,rfl,_,dC.of hx,_,rfl,_,rfl,_,rfl,mx h4 h1 (by omega),q⟩
def eL (_:PySem.W.Frag):Sp:=λvs H Q _=>∃(c b:Addr) (as:List Addr) (J:List (Int×Int)) (w:Int×Int),vs=[.ref c,.ref b]∧H c=some (.lst (as.map V.ref))∧cZ H as J∧H b=some (.tup [.int w.1,.int w.2])∧J.length≤100∧Dr.fF J+Dr.fF [w]<2^2000 ∧
 ∀(as':List Addr) (H':Hp),(∀x u,x≠c→H x=some u→H' x=some u)→H' c=some (.lst (as'.map V.ref))→cZ H' as' (Dr.iN J.reverse w).reverse→Q .cU H'
theorem Bd (B:Bi mg K w)(yF:Def P w K mg base "rises_more" 1 ["side","ahead"] (jS K))(F:cD K "add_side" "add_side" jm f fd):bc P w K mg base cY 2 f fd ["sides","side"] (eL K):=by
 refine F.ok uF (λvs H Q E h=>?_) (λcdv A outer s H vs Q E hr h=>?_)
 ·obtain⟨c,b,as,J,w,rfl,_⟩:=h
  rfl
 obtain⟨c,b,as,J,wv,rfl,hc,hP,hb,hl,ht,q⟩:=h
 have S:=uF
 refine⟨_,((af (aB (i:=2) S.nd rfl (Or.inl rfl) (pv 1))
  (af (ll PassesOwn.never (PW.pt (vv (aF lF (aZ cv rfl B.eI PySem.boot_len (aa (pv 0) ae)) ag (aQ _)) (wb (i7 (gx (aD yF hr rfl (aa (pv 2) (aa (ba bK (pv 0) (mB kG ag) (λ_ _=>rfl)) ae)))))))) (af (aB (i:=3) S.nd rfl (Or.inl rfl) (Jo PySem.F.plainAttrs_list PySem.F.slot_list_pop PySem.F.type_list_pop Jb (pv 0)))
  (ak (aB (i:=2) S.nd rfl (Or.inl rfl) (kC (aa (av cS (ba cR (pv 3) ag (λ_ _=>rfl)) (ba cR (pv 2) ag (λ_ _=>rfl))) (aa (av cS (ba cR (pv 3) ag (λ_ _=>rfl)) (ba cR (pv 2) ag (λ_ _=>rfl))) ae)))))))
  (ak (mJ (jf PySem.F.plainAttrs_list PySem.F.slot_list_append PySem.F.type_list_append xa (pv 0) (aa (pv 2) ae))))))),?_⟩
 walk_at "r";(try simp only [jS]);try walk_at "dr2"
 refine cB ?_
 obtain⟨W,hW⟩:∃W:Nat→St→Hp→Prop,∀m σ H2,W m σ H2↔(∃(k:Nat) (u:Int×Int) (bu:Addr) (t3:Option V),m=k∧k≤J.length∧(∀x o,x≠c→H x=some o→H2 x=some o)∧H2 c=some (.lst ((as.take k).map V.ref))∧H2 bu=some (.tup [.int u.1,.int u.2])∧Dr.iN J.reverse wv=Dr.iN (J.take k).reverse u∧Dr.fF (J.take k)+Dr.fF [u]≤Dr.fF J+Dr.fF [wv]∧σ=[some (V.ref c),some (V.ref b),some (V.ref bu),t3]):=⟨_,λ_ _ _=>Iff.rfl⟩
 have hal:=hP.1
 refine EU W J.length ((hW _ _ _).mpr ⟨J.length,wv,b,none,rfl,Nat.le_refl _,λx o _ h=>h,by rw [←hal,List.take_length];exact hc,hb,by rw [List.take_length],by rw [List.take_length];exact Nat.le_refl _,rfl⟩) ?_
 intro m σ H2 z
 obtain⟨k,u,bu,t3,rfl,hk,k2,kc,ku,hadd,htot,rfl⟩:=(hW _ _ _).mp z
 have hP2:cZ H2 as J:=⟨hP.1,λi x p e1 e2=>by
  have h:=hP.2 i x p e1 e2
  exact k2 _ _ (λz=>by rw [z,hc] at h;cases h) h⟩
 have out:(Dr.iN (J.take m).reverse u).reverse=J.take m++[u]→(az K H2 c ((as.take m).map V.ref))→∀H3,H3=upd H2 c (.lst ((as.take m).map V.ref++[.ref bu]))→Q .cU H3:=λhr _ H3 e3=>by
  subst e3
  refine q (as.take m++[bu]) _ (λx o hx h=>by rw [aI hx];exact k2 x o hx h) (by rw [aS,List.map_append];rfl) ?_
  rw [hadd,hr]
  have hT:cZ H2 (as.take m) (J.take m):=⟨by rw [List.length_take,List.length_take,hal],λi x p e1 e2=>by
   rw [List.getElem?_take] at e1 e2
   split at e1
   ·rename_i hi
    rw [if_pos hi] at e2
    exact hP2.2 i x p e1 e2
   ·cases e1⟩
  have hA:=hT.app (cZ.one (b:=u) ku)
  exact⟨hA.1,λi x p e1 e2=>by
   have h:=hA.2 i x p e1 e2
   rw [aI λz=>by rw [z,kc] at h;cases h]
   exact h⟩
 try walk_at "dr1";(try simp only [jS,Jt]);try walk_at "dr1"
 have lt:((as.take m).map V.ref).length=m:=by rw [List.length_map,List.length_take];((try clear hadd hb hc hl ht htot kc ku);omega)
 refine⟨_,.inl (az.of kc),cG (λc0=>?_) (λc0=>?_)⟩
 ·rw [lt] at c0
  obtain⟨k',rfl⟩:∃k',m=k'+1:=⟨m-1,by (try clear hadd hal hb hc hk hl ht htot kc ku);omega⟩
  obtain⟨jl,hjl⟩:∃jl,J[k']?=some jl:=⟨_,List.getElem?_eq_getElem (by (try clear c0 hadd hb hc hl ht htot kc ku);omega)⟩
  obtain⟨la,hla,hkl⟩:=hP2.at hjl
  have eas:as.take (k'+1)=as.take k'++[la]:=by rw [List.take_add_one,hla];rfl
  have eJ:J.take (k'+1)=J.take k'++[jl]:=by rw [List.take_add_one,hjl];rfl
  have nla:la≠c:=λz=>by rw [z,kc] at hkl;cases hkl
  have nbu:bu≠c:=λz=>by rw [z,kc] at ku;cases ku
  have bt:Dr.fF (J.take (k'+1))+Dr.fF [u]<2^2000:=Nat.lt_of_le_of_lt htot ht
  have bu2:=Dr.EI (L:=[u]) (m:=2000) (List.mem_singleton.mpr rfl) (by (try clear c0 eJ eas hadd hal hb hc hjl hk hkl hl hla ht htot kc ku lt nbu nla);omega)
  have bj:=Dr.EI (L:=J.take (k'+1)) (x:=jl) (m:=2000) (by rw [eJ];simp) (by (try clear bu2 c0 eJ eas hadd hal hb hc hjl hk hkl hl hla ht htot kc ku lt nbu nla);omega)
  have last:((as.take (k'+1)).map V.ref)[((as.take (k'+1)).map V.ref).length-1]?=some (.ref la):=by
   rw [lt,eas,List.map_append,Nat.add_sub_cancel,List.getElem?_append_right (by rw [List.length_map,List.length_take];((try clear bj bt bu2 c0 eJ eas hadd hb hc hjl hkl hl hla ht htot kc ku nbu nla);omega)),List.length_map,List.length_take,show k'-min k' as.length=0 by ((try clear bj bt bu2 c0 eJ eas hadd hb hc hjl hkl hl hla ht htot kc ku nbu nla);omega)]
   rfl
  have at1:iX ((as.take (k'+1)).map V.ref) (-1)=some (.ref la):=by
   unfold iX qp
   rw [if_neg (by decide),if_pos (by rw [lt];((try clear bj bt bu2 c0 eJ eas hadd hal hb hc hjl hk hkl hl hla ht htot kc ku last nbu nla);omega))]
   rw [show (-1+(((as.take (k'+1)).map V.ref).length:Int)).toNat=((as.take (k'+1)).map V.ref).length-1 by ((try clear bj bt bu2 c0 eJ eas hadd hal hb hc hjl hk hkl hl hla ht htot kc ku last nbu nla);omega)]
   exact last
  refine⟨_,az.of kc,_,at1,la,rfl,u,ku,jl,hkl,2000,bu2.1,bu2.2,bj.1,bj.2,by decide,cG (λcn=>?_) (λcn=>?_)⟩
  ·refine⟨_,λ_ _ h=>h,⟨_,az.of kc⟩,_,kc,.ref la,last,la,rfl,?_⟩
   generalize e3:upd H2 c _=H3
   have kc3:H3 c=some (.lst ((as.take k').map V.ref)):=by rw [←e3,aS,eas,List.map_append];simp
   have kp3:∀x o,x≠c→H2 x=some o→H3 x=some o:=λx o hx h=>by rw [←e3,aI hx];exact h
   clear e3
   have kl3:=kp3 _ _ nla hkl
   have ku3:=kp3 _ _ nbu ku
   refine⟨_,dC.of kl3,_,rfl,_,dC.of ku3,_,rfl,_,rfl,_,rfl,_,rfl,_,dC.of kl3,_,rfl,_,dC.of ku3,_,rfl,_,rfl,_,rfl,by decide,?_⟩
   intro l4 n_l4;generalize e0:upd _ l4 _=H4;obtain⟨g4,k4⟩:=cL e0 n_l4;clear e0
   refine⟨k',by (try clear at1 bj bt bu2 c0 cn eJ eas hadd hal hb hc hjl hk hkl hl hla ht htot k4 kc kc3 kl3 ku ku3 last lt n_l4 nbu nla);omega,(hW _ _ _).mpr ⟨k',Dr.BU jl u,l4,some (.ref la),rfl,by (try clear at1 bj bt bu2 c0 cn eJ eas hadd hb hc hjl hkl hl hla ht htot k4 kc kc3 kl3 ku ku3 last n_l4 nbu nla);omega,λx o hx h=>g4 _ _ (kp3 _ _ hx (k2 x o hx h)),g4 _ _ kc3,k4,?_,?_,rfl⟩⟩
   ·rw [hadd,eJ,List.reverse_append]
    show Dr.iN (jl::(J.take k').reverse) u=_
    rw [Dr.iN,if_neg cn]
   ·rw [eJ,Dr.pY] at htot
    simp only [Dr.fF,Dr.BU] at htot ⊢
    ((try clear at1 bj bt bu2 c0 cn eJ eas hal hb hc hjl hkl hl hla ht k4 kc3 kl3 ku ku3 last lt n_l4 nbu nla);omega)
  ·refine⟨⟨_,az.of kc⟩,_,kc,by rw [lt];unfold sizeLine;((try clear at1 bj bt bu2 c0 cn eJ eas hadd hb hc hjl hkl hla ht htot kc ku last nbu nla);omega),out ?_ (az.of kc) _ rfl⟩
   have cn:Dr.Gm jl u:=Decidable.byContradiction cn
   rw [eJ,List.reverse_append]
   show (Dr.iN (jl::(J.take k').reverse) u).reverse=_
   rw [Dr.iN,if_pos cn]
   simp
 ·rw [lt] at c0
  obtain rfl:m=0:=by ((try clear hadd hal hb hc hk hl ht htot kc ku);omega)
  refine⟨⟨_,az.of kc⟩,_,kc,by rw [lt];unfold sizeLine;((try clear c0 hadd hal hb hc hk hl ht htot kc ku lt);omega),out ?_ (az.of kc) _ rfl⟩
  simp [Dr.iN]
inductive lI (p:Int):List Int→List (Int×Int)→Prop
 | nil:lI p [] []
 | i5 {f:List Int} {ms:List (Int×Int)}:lI p f ms→lI p (f++[0]) ms
 | one {f:List Int} {ms:List (Int×Int)} {x u:Int} {d:Nat}:lI p f ms→Dr.hV p x d u→lI p (f++[x]) (ms++[((f.length:Int),(d:Int))])
theorem lI.uniq {p:Int}{f:List Int}{ms ms':List (Int×Int)}(hp:2≤p)(h:lI p f ms)(h':lI p f ms'):ms=ms':=by
 induction h generalizing ms' with
 | nil=>
  generalize e:([]:List Int)=g at h'
  cases h' with
  | nil=>rfl
  | i5 _=>simp at e
  | one _ _=>simp at e
 | @i5 f ms _ ih=>
  generalize e:f++[0]=g at h'
  cases h' with
  | nil=>simp at e
  | i5 h2=>
   obtain⟨rfl,_⟩:=List.append_inj' e rfl
   exact ih h2
  | one _ fc=>
   obtain⟨_,e2⟩:=List.append_inj' e rfl
   cases e2
   exact absurd rfl (fc.ne hp)
 | @one f ms x u d _ fc ih=>
  generalize e:f++[x]=g at h'
  cases h' with
  | nil=>simp at e
  | i5 h2=>
   obtain⟨_,e2⟩:=List.append_inj' e rfl
   cases e2
   exact absurd rfl (fc.ne hp)
  | one h2 fc2=>
   obtain⟨rfl,e2⟩:=List.append_inj' e rfl
   cases e2
   rw [ih h2,(fc.uniq hp fc2).1]
theorem lI.len {p:Int}{f:List Int}{ms:List (Int×Int)}(h:lI p f ms):ms.length≤f.length:=by
 induction h with
 | nil=>exact Nat.le_refl _
 | i5 _ ih=>rw [List.length_append];omega
 | one _ _ ih=>rw [List.length_append,List.length_append];simp only [List.length_cons,List.length_nil];omega
theorem lI.small {p:Int}{f:List Int}{ms:List (Int×Int)}(hp:2≤p)(h:lI p f ms)(hsm:∀x,x∈f→Dr.Sm x 1000):∀m,m∈ms→(0≤m.1∧m.1<f.length)∧0≤m.2∧m.2<1000:=by
 induction h with
 | nil=>exact λm hm=>nomatch hm
 | i5 _ ih=>
  intro m hm
  have:=ih (λx hx=>hsm x (List.mem_append_left _ hx)) m hm
  rw [List.length_append]
  simp only [List.length_cons,List.length_nil]
  omega
 | one _ fc ih=>
  intro m hm
  rw [List.length_append]
  simp only [List.length_cons,List.length_nil]
  rcases List.mem_append.mp hm with w|w
  ·have:=ih (λx hx=>hsm x (List.mem_append_left _ hx)) m w
   omega
  ·rw [List.mem_singleton.mp w]
   have:=fc.yG hp (hsm _ (by simp))
   simp only
   omega
noncomputable def bd:Int×Int→List (Int×Int)→List (Int×Int)→List (Int×Int)
 | _,[],acc=>acc
 | l,m::ms,acc=>bd m ms (Dr.iN acc (Dr.zd m l))
noncomputable def oi:List (Int×Int)→List (Int×Int)
 | []=>[]
 | m::ms=>(bd m ms []).reverse
def bP (K:PySem.W.Frag):Sp:=λvs H Q E=>∃(p:Int) (a:Addr) (f:List Int),vs=[.int p,.ref a]∧az K H a (f.map V.int)∧(2≤p∧p<1000)∧f.length≤13∧(∀x,x∈f→Dr.Sm x 1000) ∧
 ∀ms:List (Int×Int),lI p f ms→(ms=[]→∀H',aL H H'→E (.ref (cq K "NoDepth")) none H')∧(ms≠[]→(oi ms).length≤13→Dr.fF (oi ms)<2^15 →
 ∀(c:Addr) (as:List Addr) (H':Hp),H c=none→aL H H'→H' c=some (.lst (as.map V.ref))→cZ H' as (oi ms)→Q (.ref c) H')
theorem zm (B:Bi mg K w)(pE:Def P w K mg base "depth_of" 1 ["p","x"] (dh K))(Ct:Def P w K mg base "add_side" 2 ["sides","side"] (eL K))(F:cD K "border_of" "border_of" iz f fd):bc P w K mg base (eh P w) 3 f fd ["p","f"] (bP K):=by
 refine F.jM tm (λvs H Q E h=>?_) (λcdv A outer s H vs Q E hr h=>?_)
 ·obtain⟨p,a,f,rfl,_⟩:=h
  rfl
 obtain⟨p,a,f,rfl,hS,hp,hl,hsm,q⟩:=h
 have S:=tm
 refine⟨_,((af (zK [0] ["p"] rfl S.nd (k:=2) rfl rfl rfl rfl ⟨rfl,trivial⟩ ⟨rfl,rfl,rfl,rfl,trivial⟩ rfl rfl (by decide) (by decide) rfl rfl rfl (by decide) (sH rfl B.lC (pv 1)) (λ_ _ _ _=>(wa (aF my (pv 1) ag (aQ _)))) (λ_ _ _ _=>(kC (aa (pv 0) (aa (aD pE hr rfl (aa (pv 2) (aa (pv 1) ae))) ae)))))
  (af (bN (aF cP (aZ cv rfl B.eI PySem.boot_len (aa (pv 2) ae)) ag (aQ _)) (ak (lj wx rfl rfl B.nO B.oa (aa bH ae))) aR)
  (af (aB (i:=3) S.nd rfl (Or.inl rfl) (dS ae))
  (af (aB (i:=4) S.nd rfl (Or.inl rfl) (ba bK (pv 2) ag (λ_ _=>rfl)))
  (af (Eu (fK PassesOwn.never rfl (d3 (nt wk (pv 2) (oZ ag) oY)) (cI (i:=5) S.nd rfl (Or.inl rfl)) (af (mJ (aD Ct hr rfl (aa (pv 3) (aa (kC (aa (av ft (ba cR (pv 5) ag (λ_ _=>rfl)) (ba cR (pv 4) ag (λ_ _=>rfl))) (aa (av ft (ba cR (pv 5) ag (λ_ _=>rfl)) (ba cR (pv 4) ag (λ_ _=>rfl))) ae))) ae))))
  (ak (aB (i:=4) S.nd rfl (Or.inl rfl) (pv 5))))))
  (ak (aC (pv 3))))))))),?_⟩
 walk_at "r";(try simp only [dh,eL]);try walk_at "dr2"
 refine⟨⟨_,hS⟩,?_⟩
 obtain⟨Pc,hPc⟩:∃Pc:Nat→List V→Hp→Prop,∀i ys H1,Pc i ys H1↔(aL H H1∧∃(as:List Addr) (ms:List (Int×Int)),ys=as.map V.ref∧cZ H1 as ms∧lI p (f.take i) ms):=⟨_,λ_ _ _=>Iff.rfl⟩
 refine IB f Pc (by unfold sizeLine;((try clear hp);omega)) ((hPc _ _ _).mpr ⟨λ_ _ h=>h,[],[],rfl,cZ.nil _,.nil⟩) (λi ys H1 z=>by obtain⟨g,_⟩:=(hPc _ _ _).mp z;exact g.seq hS) ?_ ?_
 ·intro i x ys H1 H2 hx z g12
  obtain⟨g1,as,ms,rfl,hP,hM⟩:=(hPc _ _ _).mp z
  have tk:f.take (i+1)=f.take i++[x]:=by rw [List.take_add_one,hx];rfl
  have hi:=(List.getElem?_eq_some_iff.mp hx).1
  have il:(f.take i).length=i:=by rw [List.length_take];((try clear hl hp hx tk);omega)
  try walk_at "dr1";(try simp only [dh,eL]);try walk_at "dr1"
  by_cases c0:x=0
  ·subst c0
   rw [if_neg (by simp)]
   exact (hPc _ _ _).mpr ⟨g1.trans g12,as,ms,rfl,hP.same g12,by rw [tk];exact hM.i5⟩
  ·rw [if_pos (by simp [c0])]
   refine⟨hp.1,hp.2,c0,λd u fc=>⟨by decide,?_⟩⟩
   intro t n_t;generalize e0:upd _ t _=H3;obtain⟨g3,k3⟩:=cL e0 n_t;clear e0
   refine (hPc _ _ _).mpr ⟨(g1.trans g12).trans g3,as++[t],ms++[((i:Int),(d:Int))],by rw [List.map_append];rfl,((hP.same g12).same g3).app (cZ.one (b:=((i:Int),(d:Int))) k3),?_⟩
   have:=hM.one fc
   rw [il] at this
   rw [tk]
   exact this
 intro ys H1 z
 obtain⟨g1,as,ms,rfl,hP,hM⟩:=(hPc _ _ _).mp z
 rw [List.take_length] at hM
 clear hPc z
 obtain⟨qx,q⟩:=q ms hM
 intro lm n_lm;generalize e0:upd _ lm _=H2;obtain⟨g2,k2⟩:=cL e0 n_lm;clear e0
 have hP2:=hP.same g2
 have G2:=g1.trans g2
 walk_at "r";(try simp only [dh,eL]);try walk_at "dr2"
 refine⟨_,.inl (az.of k2),?_⟩
 rw [List.length_map]
 have hal:=hP.1
 by_cases hms:ms=[]
 ·have h0:as.length=0:=by rw [hal,hms];rfl
  rw [if_pos (by (try clear hl hms hp k2 n_lm);omega)]
  exact⟨by decide,qx hms H2 G2⟩
 have q:=q hms
 have hpos:0<ms.length:=List.length_pos_iff.mpr hms
 rw [if_neg (by (try clear hl hms hp k2 n_lm);omega)]
 obtain⟨m0,hm0⟩:∃m0,ms[0]?=some m0:=⟨_,List.getElem?_eq_getElem hpos⟩
 obtain⟨a0,ha0,k0⟩:=hP2.at hm0
 have em:ms=m0::ms.drop 1:=by
  cases ms with
  | nil=>exact absurd rfl hms
  | cons y ms=>cases hm0;rfl
 have eb:oi ms=(bd m0 (ms.drop 1) []).reverse:=by
  conv=>lhs;rw [em]
  rfl
 walk_at "r";(try simp only [dh,eL]);try walk_at "dr2"
 refine⟨by decide,?_⟩
 intro c n_c;generalize e0:upd _ c _=H3;obtain⟨g3,k3⟩:=cL e0 n_c;clear e0
 have nc:H c=none:=G2.free n_c
 have at0:iX (as.map V.ref) 0=some (.ref a0):=aM (j:=0) (by rw [List.getElem?_map,ha0];rfl)
 walk_at "r";(try simp only [dh,eL]);try walk_at "dr2"
 refine⟨_,az.of (g3 _ _ k2),_,at0,?_⟩
 walk_at "r";(try simp only [dh,eL]);try walk_at "dr2"
 refine⟨_,az.of (g3 _ _ k2),?_⟩
 intro ls n_ls;generalize e0:upd _ ls _=H4;obtain⟨g4,k4⟩:=cL e0 n_ls;clear e0
 rw [yA V.ref _ (by (try clear at0 eb em ha0 hal hl hm0 hms hp hpos k0 k2 k3 k4 n_c n_lm n_ls nc);omega)] at k4
 have k4:H4 ls=some (.lst ((as.drop 1).map V.ref)):=k4
 have kc4:=g4 _ _ k3
 have hP4:=(hP2.same g3).same g4
 have G4:=(G2.trans g3).trans g4
 have nlc:ls≠c:=λz=>by rw [z,k3] at n_ls;cases n_ls
 have npc:∀i x b,as[i]?=some x→ms[i]?=some b→x≠c:=λi x b e1 e2 z=>by have h:=hP4.2 i x b e1 e2;rw [z,kc4] at h;cases h
 have hlen:ms.length≤13:=Nat.le_trans hM.len hl
 have bm:=hM.small hp.1 hsm
 refine⟨⟨_,az.of k4⟩,?_⟩
 obtain⟨Pv,hPv⟩:∃Pv:Nat→St→Hp→Prop,∀i σ H5,Pv i σ H5↔(∃(aJ:List Addr) (J:List (Int×Int)) (la:Addr) (l0:Int×Int) (t5:Option V),(∀z o,z≠c→H4 z=some o→H5 z=some o)∧H5 c=some (.lst (aJ.map V.ref))∧cZ H5 aJ J∧J.length≤i∧Dr.fF J≤i*2200∧ms[i]?=some l0∧as[i]?=some la∧oi ms=(bd l0 (ms.drop (i+1)) J.reverse).reverse∧σ=[some (V.int p),some (V.ref a),some (V.ref lm),some (V.ref c),some (V.ref la),t5]):=⟨_,λ_ _ _=>Iff.rfl⟩
 refine forL ((as.drop 1).map V.ref) Pv ((hPv _ _ _).mpr ⟨[],[],a0,m0,none,λ_ _ _ h=>h,kc4,cZ.nil _,Nat.le_refl _,by simp [Dr.fF],hm0,ha0,eb,rfl⟩) (λi σ H5 _ z=>by obtain⟨aJ,J,la,l0,t5,kk,_⟩:=(hPv _ _ _).mp z;exact az.of (kk _ _ nlc k4)) ?_ ?_
 ·intro i v σ H5 hv z
  obtain⟨aJ,J,la,l0,t5,kk,kc,hPJ,hJl,hJt,hlm,hla,hH,rfl⟩:=(hPv _ _ _).mp z
  rw [List.getElem?_map,List.getElem?_drop,Nat.add_comm] at hv
  obtain⟨sa,hsa,rfl⟩:∃sa,as[i+1]?=some sa∧V.ref sa=v:=by
   cases w:as[i+1]? with
   | none=>rw [w] at hv;cases hv
   | some sa=>rw [w] at hv;exact⟨sa,rfl,Option.some.inj hv⟩
  obtain⟨sd,hsd,hks⟩:=hP4.get hsa
  have ks5:=kk _ _ (npc _ _ _ hsa hsd) hks
  have kl5:=kk _ _ (npc _ _ _ hla hlm) (hP4.2 _ _ _ hla hlm)
  have hi:=(List.getElem?_eq_some_iff.mp hsd).1
  have b1:=bm _ (List.mem_of_getElem? hsd)
  have b2:=bm _ (List.mem_of_getElem? hlm)
  have wt:Dr.fF [Dr.zd sd l0]≤2200:=by
   simp only [Dr.fF,Dr.zd]
   ((try clear at0 eb em hH hJl hJt ha0 hal hi hks hla hlen hlm hm0 hms hp hpos hsa hsd hv k0 k2 k3 k4 kc kc4 kl5 ks5 n_c n_lm n_ls nc nlc);omega)
  have h2k:2^15<2^2000:=Nat.pow_lt_pow_right (by decide) (by decide)
  have e15:(2:Nat)^15=32768:=by decide
  have dn:ms.drop (i+1)=sd::ms.drop (i+1+1):=by
   obtain⟨h1,e⟩:=List.getElem?_eq_some_iff.mp hsd
   rw [List.drop_eq_getElem_cons h1,e]
  rw [dn] at hH
  try walk_at "dr1";(try simp only [dh,eL]);try walk_at "dr1"
  refine⟨_,dC.of ks5,_,rfl,_,dC.of kl5,_,rfl,_,rfl,_,rfl,_,dC.of ks5,_,rfl,_,dC.of kl5,_,rfl,_,rfl,_,rfl,by decide,?_⟩
  intro w n_w;generalize e0:upd _ w _=H6;obtain⟨g6,k6⟩:=cL e0 n_w;clear e0
  refine⟨aJ,g6 _ _ kc,J,hPJ.same g6,Dr.zd sd l0,k6,by (try clear at0 b1 b2 dn e15 eb em h2k hH hJt ha0 hal hks hl hla hlm hm0 hms hp hsa hsd hv k0 k2 k3 k4 k6 kc kc4 kl5 ks5 n_c n_lm n_ls n_w nc nlc wt);omega,?_,λaJ' H7 k7 kc7 hP7=>?_⟩
  ·generalize (2:Nat)^2000=M at h2k ⊢
   ((try clear at0 b1 b2 dn e15 eb em hH hJl ha0 hal hks hl hla hlm hm0 hms hp hsa hsd hv k0 k2 k3 k4 k6 kc kc4 kl5 ks5 n_c n_lm n_ls n_w nc nlc);omega)
  have hl7:=Dr.yo J.reverse (Dr.zd sd l0)
  have ht7:=Dr.Ah J.reverse (Dr.zd sd l0)
  rw [List.length_reverse] at hl7
  rw [Dr.B9] at ht7
  refine (hPv _ _ _).mpr ⟨aJ',(Dr.iN J.reverse (Dr.zd sd l0)).reverse,sa,sd,_,λz o hz h=>k7 z o hz (g6 _ _ (kk z o hz h)),kc7,hP7,by rw [List.length_reverse];((try clear at0 b1 b2 dn e15 eb em h2k hH hJt ha0 hal hi hks hl hla hlen hlm hm0 hms hp hpos hsa hsd ht7 hv k0 k2 k3 k4 k6 kc kc4 kc7 kl5 ks5 n_c n_lm n_ls n_w nc nlc wt);omega),by rw [Dr.B9];((try clear at0 b1 b2 dn e15 eb em h2k hH hJl ha0 hal hi hks hl hl7 hla hlen hlm hm0 hms hp hpos hsa hsd hv k0 k2 k3 k4 k6 kc kc4 kc7 kl5 ks5 n_c n_lm n_ls n_w nc nlc);omega),hsd,hsa,by rw [List.reverse_reverse];exact hH,rfl⟩
 ·intro σ H5 z
  obtain⟨aJ,J,la,l0,t5,kk,kc,hPJ,hJl,hJt,hlm,hla,hH,rfl⟩:=(hPv _ _ _).mp z
  have el:((as.drop 1).map V.ref).length+1=ms.length:=by rw [List.length_map,List.length_drop];((try clear at0 eb em hH hJl hJt ha0 hl hla hlm hm0 hms hp k0 k2 k3 k4 kc kc4 n_c n_lm n_ls nc nlc);omega)
  rw [el,List.drop_length] at hH
  have hH:oi ms=J:=by rw [hH,bd,List.reverse_reverse]
  try walk_at "dr1";(try simp only [dh,eL]);try walk_at "dr1"
  rw [hH] at q
  have e15:(2:Nat)^15=32768:=by decide
  exact q (by (try clear at0 e15 eb em hH hJt ha0 hal hl hla hlm hm0 hms hp k0 k2 k3 k4 kc kc4 n_c n_lm n_ls nc nlc);omega) (by (try clear at0 e15 eb em hH hJl ha0 hal hl hla hlm hm0 hms hp k0 k2 k3 k4 kc kc4 n_c n_lm n_ls nc nlc);omega) c aJ H5 nc (λz o h=>kk z o (λe=>by rw [e,nc] at h;cases h) (G4 _ _ h)) kc hPJ
def bS (_:PySem.W.Frag):Sp:=λvs H Q _=>∃(p x e:Int),vs=[.int p,.int x,.int e]∧(2≤p∧p<1000)∧(0≤e∧e≤60)∧∀l H',aL H H'→H l=none→H' l=some (.tup [.int (x%p^e.toNat),.int e])→Q (.ref l) H'
theorem CN (B:Bi mg K w)(bZ:Def P w K mg base "power_of" 1 ["p","e"] (aw K))(F:cD K "ball_of" "ball_of" j5 f fd):bc P w K mg base cY 2 f fd ["p","x","e"] (bS K):=by
 refine F.ok wH (λvs H Q E h=>?_) (λcdv A outer s H vs Q E hr h=>?_)
 ·obtain⟨p,x,e,rfl,_⟩:=h
  rfl
 obtain⟨p,x,e,rfl,hp,he,q⟩:=h
 have S:=wH
 refine⟨_,((ak (aC (kC (aa (av cp (pv 1) (aD bZ hr rfl (aa (pv 0) (aa (pv 2) ae)))) (aa (pv 2) ae)))))),?_⟩
 try walk_at "dr1";(try simp only [aw]);try walk_at "dr1"
 exact⟨hp.1,hp.2,he.1,by omega,Dr.pow_pos (by omega) _,by decide,λl nl=>q l _ (eC nl) nl aS⟩
noncomputable def wY (m:Int):Nat→Int→Int→Int→Int→Int×Int
 | 0,_,_,r,t=>(r,t)
 | n+1,R,S,r,t=>if r > m then wY m n r t (R-R/r*r) (S-R/r*t) else (r,t)
theorem Fe {m R S r t:Int}(h:¬r > m):∀n,wY m n R S r t=(r,t)
 | 0=>rfl
 | n+1=>by rw [wY,if_neg h]
def dU (_:PySem.W.Frag):Sp:=λvs H Q _=>∃(M a m:Int),vs=[.int M,.int a,.int m]∧0<M∧Dr.Sm M 700∧1≤m ∧
 ∀(c:Addr) (r t:Int) (H':Hp),wY m M.toNat M 0 (a%M) 1=(r,t)→(0≤r∧r≤m)→aL H H'→H' c=some (.tup [.int r,.int t])→Q (.ref c) H'
theorem rF (B:Bi mg K w)(F:cD K "first_small_row" "first_small_row" eV f fd):bc P w K mg base cY 1 f fd ["power","a","m"] (dU K):=by
 refine F.ok mj (λvs H Q E h=>?_) (λcdv A outer s H vs Q E hr h=>?_)
 ·obtain⟨M,a,m,rfl,_⟩:=h
  rfl
 obtain⟨M,a,m,rfl,hM,bM,hm,q⟩:=h
 have S:=mj
 refine⟨_,((af (aB (i:=3) S.nd rfl (Or.inl rfl) (kC (aa (pv 0) (aa ag ae))))
  (af (aB (i:=4) S.nd rfl (Or.inl rfl) (kC (aa (av cp (pv 1) (pv 0)) (aa ag ae))))
  (af (ll PassesOwn.never (aF lF (ba cR (pv 4) ag (λ_ _=>rfl)) (pv 2) (aQ _)) (af (aB (i:=5) S.nd rfl (Or.inl rfl) (av eD (ba cR (pv 3) ag (λ_ _=>rfl)) (ba cR (pv 4) ag (λ_ _=>rfl))))
  (af (aB (i:=6) S.nd rfl (Or.inl rfl) (kC (aa (av ft (ba cR (pv 3) ag (λ_ _=>rfl)) (av cA (pv 5) (ba cR (pv 4) ag (λ_ _=>rfl)))) (aa (av ft (ba cR (pv 3) ag (λ_ _=>rfl)) (av cA (pv 5) (ba cR (pv 4) ag (λ_ _=>rfl)))) ae))))
  (af (aB (i:=3) S.nd rfl (Or.inl rfl) (pv 4))
  (ak (aB (i:=4) S.nd rfl (Or.inl rfl) (pv 6)))))))
  (ak (aC (pv 4))))))),?_⟩
 walk_at "r"
 refine⟨by decide,?_⟩
 intro l1 n_l1;generalize e0:upd _ l1 _=H1;obtain⟨g1,k1⟩:=cL e0 n_l1;clear e0
 walk_at "r"
 refine⟨hM,by decide,?_⟩
 intro l2 n_l2;generalize e0:upd _ l2 _=H2;obtain⟨g2,k2⟩:=cL e0 n_l2;clear e0
 have rM:=dO a hM
 refine cB ?_
 obtain⟨W,hW⟩:∃W:Nat→St→Hp→Prop,∀n σ H3,W n σ H3↔(aL H H3∧∃(la lr:Addr) (R S r t s:Int) (t5 t6:Option V),H3 la=some (.tup [.int R,.int S])∧H3 lr=some (.tup [.int r,.int t])∧Dr.Rows M a R S r t s∧r<M∧r.toNat≤n∧wY m n R S r t=wY m M.toNat M 0 (a%M) 1∧σ=[some (.int M),some (.int a),some (.int m),some (.ref la),some (.ref lr),t5,t6]):=⟨_,λ_ _ _=>Iff.rfl⟩
 refine EU W M.toNat ((hW _ _ _).mpr ⟨g1.trans g2,l1,l2,M,0,a%M,1,1,none,none,g2 _ _ k1,k2,Dr.Rows.start hM,rM.2,by (try clear hm k1 k2 n_l1 n_l2);omega,rfl,rfl⟩) ?_
 intro n σ H3 z
 obtain⟨g3,la,lr,R,S',r,t,s,t5,t6,ka,kr,hR,hrM,hn,he,rfl⟩:=(hW _ _ _).mp z
 have sm:=hR.small hM
 have hr0:=hR.r0
 have hrR:=hR.rR
 try walk_at "dr1"
 refine⟨_,dC.of kr,_,aM (j:=0) rfl,_,rfl,?_⟩
 refine cG (λc0=>?_) (λc0=>?_)
 ·refine⟨_,λ_ _ h=>h,?_⟩
  have st:=hR.step (show 0<r by ((try clear hM he hn hrM hrR k1 k2 ka kr n_l1 n_l2 rM sm);omega))
  have bR:Dr.Sm R 700:=by unfold Dr.Sm at bM ⊢;((try clear he hn hrM k1 k2 ka kr n_l1 n_l2 rM);omega)
  have br:Dr.Sm r 700:=by unfold Dr.Sm at bM ⊢;((try clear c0 he hm hn hrR k1 k2 ka kr n_l1 n_l2 rM sm);omega)
  have bt:Dr.Sm t 700:=by unfold Dr.Sm at bM ⊢;((try clear he hn hrM hrR k1 k2 ka kr n_l1 n_l2 rM);omega)
  have bq:Dr.Sm (R/r) 700:=by
   have h1:=Int.ediv_nonneg (show 0≤R by ((try clear hM he hn hr0 hrM k1 k2 ka kr n_l1 n_l2 rM sm);omega)) hr0
   have h2:R/r≤R:=Int.ediv_le_self r (by (try clear h1 hM he hn hr0 hrM k1 k2 ka kr n_l1 n_l2 rM sm);omega)
   unfold Dr.Sm at bR ⊢
   ((try clear hM he hn hr0 hrM k1 k2 ka kr n_l1 n_l2 rM sm);omega)
  have hdiv:pe R r:=⟨by (try clear hM he hn hrM hrR k1 k2 ka kr n_l1 n_l2 rM sm);omega,by
   have h2:r.natAbs.log2<700:=(Nat.log2_lt (by (try clear hM he hn hrM hrR k1 k2 ka kr n_l1 n_l2 rM sm);omega)).mpr br
   ((try clear c0 hM he hm hn hr0 hrM hrR k1 k2 ka kr n_l1 n_l2 rM sm);omega)⟩
  have a0:iX [V.int R,V.int S'] 0=some (.int R):=aM (j:=0) rfl
  have a1:iX [V.int R,V.int S'] 1=some (.int S'):=aM (j:=1) rfl
  have r0:iX [V.int r,V.int t] 0=some (.int r):=aM (j:=0) rfl
  have r1:iX [V.int r,V.int t] 1=some (.int t):=aM (j:=1) rfl
  have ka':=dC.of (K:=K) ka
  have kr':=dC.of (K:=K) kr
  obtain⟨n',rfl⟩:∃n',n=n'+1:=⟨n-1,by (try clear a0 a1 hM he hrM hrR k1 k2 ka kr n_l1 n_l2 r0 r1 rM sm);omega⟩
  rw [wY,if_pos c0] at he
  refine⟨_,ka',_,a0,_,kr',_,r0,_,rfl,_,rfl,hdiv,_,ka',_,a0,_,kr',_,r0,_,rfl,mx bq br (by decide),_,rfl,_,ka',_,a1,_,kr',_,r1,_,rfl,mx bq bt (by decide),_,rfl,by decide,?_⟩
  intro l4 n_l4;generalize e0:upd _ l4 _=H4;obtain⟨g4,k4⟩:=cL e0 n_l4;clear e0
  exact⟨n',by (try clear a0 a1 c0 hM he hm hn hr0 hrM hrR k1 k2 k4 ka kr n_l1 n_l2 n_l4 r0 r1 rM sm);omega,(hW _ _ _).mpr ⟨g3.trans g4,lr,l4,r,t,_,_,_,_,_,g4 _ _ kr,k4,st,by have:=st.rR;((try clear a0 a1 c0 hM he hm hn hr0 hrR k1 k2 k4 ka kr n_l1 n_l2 n_l4 r0 r1 rM sm);omega),by have:=st.rR;have:=st.r0;((try clear a0 a1 c0 hM he hm hrM hrR k1 k2 k4 ka kr n_l1 n_l2 n_l4 r0 r1 rM sm this);omega),he,rfl⟩⟩
 ·rw [Fe c0] at he
  exact q lr r t H3 he.symm ⟨hr0,by (try clear hM he hm hn hr0 hrM hrR k1 k2 ka kr n_l1 n_l2 rM sm);omega⟩ g3 kr
noncomputable def rP (p M a m:Int):Option (Int×Int):=
 let w:=wY m M.toNat M 0 (a%M) 1
 let B:=if w.2<0 then -w.2 else w.2
 if B > m∨B%p=0 then none else some (if w.2<0 then -w.1 else w.1,B)
def aG (K:PySem.W.Frag):Sp:=λvs H Q E=>∃(p a e m:Int) (l:Addr),vs=[.int p,.ref l,.int m]∧dC K H l [.int a,.int e]∧(2≤p∧p<1000)∧(0≤e∧e≤60)∧Dr.Sm m 100 ∧
 ((m<1∨p^e.toNat≤2*m*m)→∀H',aL H H'→E (.ref (cq K "NoSmall")) none H') ∧
 (¬(m<1∨p^e.toNat≤2*m*m)→(∀(T B':Int) (c:Addr) (H':Hp),rP p (p^e.toNat) a m=some (T,B')→T.natAbs≤m.natAbs→B'.natAbs≤m.natAbs→aL H H'→H' c=some (.tup [.int T,.int B'])→Q (.ref c) H')∧(rP p (p^e.toNat) a m=none→∀H',aL H H'→Q .cU H'))
theorem sU (B:Bi mg K w)(bZ:Def P w K mg base "power_of" 1 ["p","e"] (aw K))(sN:Def P w K mg base "first_small_row" 1 ["power","a","m"] (dU K))(F:cD K "small_fraction" "small_fraction" fj f fd):bc P w K mg base (eh P w) 2 f fd ["p","one","m"] (aG K):=by
 refine F.jM mQ (λvs H Q E h=>?_) (λcdv A outer s H vs Q E hr h=>?_)
 ·obtain⟨p,a,e,m,l,rfl,_⟩:=h
  rfl
 obtain⟨p,a,e,m,l,rfl,hS,hp,he,bm,qx,q⟩:=h
 have S:=mQ
 refine⟨_,((af (aB (i:=3) S.nd rfl (Or.inl rfl) (aD bZ hr rfl (aa (pv 0) (aa (ba cR (pv 1) ag (λ_ _=>rfl)) ae))))
  (af (bN (PW.pt (jh (aF kz (pv 2) ag (aQ _)) (jO (aF JX (av cA (av cA ag (pv 2)) (pv 2)) (pv 3) (aQ _))))) (ak (lj wx rfl rfl B.qV B.rY (aa bH ae))) aR)
  (af (aB (i:=4) S.nd rfl (Or.inl rfl) (aD sN hr rfl (aa (pv 3) (aa (ba cR (pv 1) ag (λ_ _=>rfl)) (aa (pv 2) ae)))))
  (af (lh (bN (aF kz (ba cR (pv 4) ag (λ_ _=>rfl)) ag (aQ _)) (ak (aB (i:=4) S.nd rfl (Or.inl rfl) (kC (aa (mB kG (ba cR (pv 4) ag (λ_ _=>rfl))) (aa (mB kG (ba cR (pv 4) ag (λ_ _=>rfl))) ae))))) aR))
  (af (bN (PW.pt (jh (aF lF (ba cR (pv 4) ag (λ_ _=>rfl)) (pv 2) (aQ _)) (jO (aF cP (av cp (ba cR (pv 4) ag (λ_ _=>rfl)) (pv 0)) ag (aQ _))))) (ak (aC jN)) aR)
  (ak (aC (pv 4))))))))),?_⟩
 walk_at "r";(try simp only [aw,dU]);try walk_at "dr2"
 refine⟨_,hS,_,aM (j:=1) rfl,_,rfl,hp.1,hp.2,by (try clear hp);omega,by (try clear hp);omega,?_⟩
 have hM:=Dr.pow_pos hp.1 e.toNat
 have bM:Dr.Sm (p^e.toNat) 700:=(show Dr.Sm _ (10*e.toNat+1) from i6 hp _).mono (by (try clear hM hp);omega)
 generalize p^e.toNat=M at hM bM qx q ⊢
 walk_at "r";(try simp only [aw,dU]);try walk_at "dr2"
 have b2:Dr.Sm (2*m) 102:=((fM 2 (by decide) (by decide):Dr.Sm 2 2).mul bm).mono (by decide)
 refine cG (λc0=>⟨by decide,qx (.inl c0) H (aL.refl _)⟩) (λc0=>?_)
 refine⟨IntMulOk.of_left (by decide),mx b2 bm (by decide),cG (λc1=>⟨by decide,qx (.inr c1) H (aL.refl _)⟩) (λc1=>?_)⟩
 obtain⟨q1,q2⟩:=q (by (try clear hM he hp);omega)
 walk_at "r";(try simp only [aw,dU]);try walk_at "dr2"
 refine⟨_,hS,_,aM (j:=0) rfl,a,rfl,hM,bM,by (try clear c1 hM he hp);omega,λc r t H1 hE br g1 k1=>?_⟩
 unfold rP at q1 q2
 rw [hE] at q1 q2
 dsimp only at q1 q2
 refine cB ?_
 obtain⟨J,hJ⟩:∃J:St→Hp→Prop,∀σ' H2,J σ' H2↔(aL H H2∧∃(c:Addr),H2 c=some (.tup [.int (if t<0 then -r else r),.int (if t<0 then -t else t)])∧σ'=[some (.int p),some (.ref l),some (.int m),some (.int M),some (.ref c)]):=⟨_,λ_ _=>Iff.rfl⟩
 refine pP J ?_ ?_
 ·try walk_at "dr1";(try simp only [aw,dU]);try walk_at "dr1"
  refine⟨_,dC.of k1,_,aM (j:=1) rfl,_,rfl,cG (λc2=>?_) (λc2=>?_)⟩
  ·refine⟨_,dC.of k1,_,aM (j:=0) rfl,_,rfl,_,dC.of k1,_,aM (j:=1) rfl,_,rfl,by decide,?_⟩
   intro l2 n_l2;generalize e0:upd _ l2 _=H2;obtain⟨g2,k2⟩:=cL e0 n_l2;clear e0
   exact (hJ _ _).mpr ⟨g1.trans g2,l2,by rw [if_pos c2,if_pos c2];exact k2,rfl⟩
  ·exact (hJ _ _).mpr ⟨g1,c,by rw [if_neg c2,if_neg c2];exact k1,rfl⟩
 intro σ' H2 z
 obtain⟨g2,c',k2,rfl⟩:=(hJ _ _).mp z
 clear hJ z
 have k2':=dC.of (K:=K) k2
 have bT:(if t<0 then -r else r).natAbs≤m.natAbs:=by split<;>((try clear c1 hE hM he hp k1 k2);omega)
 have bB:0≤(if t<0 then -t else t):=by split<;>((try clear bT br c0 c1 hE hM he hp k1 k2);omega)
 generalize (if t<0 then -r else r)=T at bT k2 k2' q1 q2
 generalize (if t<0 then -t else t)=B' at bB k2 k2' q1 q2
 walk_at "r";(try simp only [aw,dU]);try walk_at "dr2"
 refine⟨_,k2',_,aM (j:=1) rfl,_,rfl,cG (λc3=>q2 (if_pos (.inl c3)) H2 g2) (λc3=>?_)⟩
 refine⟨_,k2',_,aM (j:=1) rfl,_,rfl,by (try clear bB bT br c0 c1 c3 hE hM he k1 k2);omega,cG (λc4=>q2 (if_pos (.inr c4)) H2 g2) (λc4=>?_)⟩
 exact q1 _ _ c' H2 (if_neg (λz=>z.elim c3 c4)) bT (by (try clear bT br c1 hE hM he hp k1 k2);omega) g2 k2
theorem HV {x:Int}(h:x.natAbs<10^190):(Str.ofString (toString x)).length≤191:=by
 rw [ofString_length]
 exact int_text_length_le10 (by decide) h
theorem oR {x:Int}(h:x.natAbs<10^190):x.natAbs.log2<1920:=by
 by_cases z:x.natAbs=0
 ·rw [z];decide
 ·exact (Nat.log2_lt z).mpr (Nat.lt_of_lt_of_le h (by decide +kernel))
theorem xn:∀(ms:List Int),(∀x,x∈ms→x.natAbs<10^190)→((ms.map λx=>Str.ofString (toString x)).map (·.length)).sum≤191*ms.length
 | [],_=>Nat.le_refl _
 | x::ms,h=>by
  have ih:=xn ms λy hy=>h y (.tail _ hy)
  have hx:=HV (h x (.head _))
  simp only [List.map_cons,List.sum_cons,List.length_cons]
  omega
theorem yR {ms:List Int}(hl:ms.length≤14)(h:∀x,x∈ms→x.natAbs<10^190):JoinOk (Str.ofString ",") (ms.map λx=>Str.ofString (toString x))=true:=by
 have:=xn ms h
 refine PyProof.Rows.joinOk_of ?_
 rw [Tx.comma,List.length_map]
 omega
def nD (K:PySem.W.Frag):Sp:=λvs H Q _=>∃(a:Addr) (ms:List Int),vs=[.ref a]∧az K H a (ms.map V.int)∧ms.length≤14∧(∀x,x∈ms→x.natAbs<10^190)∧∀H',aL H H'→Q (.str (Tx.shown ms)) H'
theorem zw (B:Bi mg K w)(F:cD K "show_poly" "show_poly" iG f fd):bc P w K mg base cY 1 f fd ["f"] (nD K):=by
 refine F.ok tG (λvs H Q E h=>?_) (λcdv A outer s H vs Q E hr h=>?_)
 ·obtain⟨a,ms,rfl,_⟩:=h
  rfl
 obtain⟨a,ms,rfl,hS,hl,hb,q⟩:=h
 have S:=tG
 refine⟨_,((ak (aC (jf PySem.F.plainAttrs_str PySem.F.slot_str_join PySem.F.type_str_join oS bH (aa (eU [] [] rfl rfl trivial trivial rfl rfl (by decide) (by decide) rfl rfl (by decide) (d3 (pv 0)) (λ_ _ _ _=>dG) (λ_ _ _ _=>(cb cj rfl B.ez L2.dD (aa (pv 0) ae)))) ae))))),?_⟩
 walk_at "q"
 refine⟨rfl,⟨_,hS⟩,?_⟩
 obtain⟨Pv,hPv⟩:∃Pv:Nat→List V→Hp→Prop,∀i ys H',Pv i ys H'↔(H'=H∧ys=(((ms.take i).map λx=>Str.ofString (toString x)).map V.str)):=⟨_,λ_ _ _=>Iff.rfl⟩
 (first | refine hX _ _ ?_ | skip);refine r8 ms Pv (Nat.le_trans hl (by decide)) ((hPv _ _ _).mpr ⟨rfl,rfl⟩) (λi ys H2 p=>?_) (λi x ys H2 hx p=>?_) (λys H2 p l n_l=>?_)
 ·obtain⟨rfl,_⟩:=(hPv _ _ _).mp p
  exact hS
 ·obtain⟨rfl,rfl⟩:=(hPv _ _ _).mp p
  walk_at "q"
  refine⟨oR (hb x (List.mem_of_getElem? hx)),(hPv _ _ _).mpr ⟨rfl,?_⟩⟩
  rw [i9 hx,List.map_append,List.map_append]
  rfl
 ·obtain⟨rfl,rfl⟩:=(hPv _ _ _).mp p
  rw [List.take_length]
  exact⟨_,l,_,rfl,rfl,az.of aS,yR hl hb,q _ (eC n_l)⟩
theorem B6 {n:Nat}:∀{ts:List Str},(∀t,t∈ts→t.length≤n)→(ts.map (·.length)).sum≤n*ts.length
 | [],_=>Nat.zero_le _
 | t::ts,h=>by
  have h1:=h t (.head _)
  have h2:=B6 (ts:=ts) λu hu=>h u (.tail _ hu)
  simp only [List.map_cons,List.sum_cons,List.length_cons,Nat.mul_succ]
  omega
theorem HU:(Str.ofString " ").length=1:=by decide +kernel
theorem ve {ts:List Str}(hl:ts.length≤14)(h:∀t,t∈ts→t.length≤200):JoinOk (Str.ofString " ") ts=true:=by
 have:=B6 h
 refine PyProof.Rows.joinOk_of ?_
 rw [HU]
 omega
noncomputable def pt (c:Str)(b:Int×Int):Str:=Tx.tx b.1++c++Tx.tx b.2
noncomputable def lE (ts:List Str):Str:=if ts=[] then ("none":Str) else Str.join (Str.ofString " ") ts
noncomputable def Kl:Option (Int×Int)→Str
 | none=>("no":Str)
 | some w=>pt (Str.ofString "/") w
def eZ (p:Int)(f:List Int)(a N m:Int):Nat→Str⊕Str→Prop
 | 0,r=>∃bs:List (Int×Nat),Dr.Solve p (λx=>Dr.aA f x%p^N.toNat=0) bs∧r = .inl (lE ((bs.map rD).map (pt (Str.ofString "@"))))
 | 1,r=>∃bs:List (Int×Nat),Dr.Solve p (λx=>Dr.aA f x%p^N.toNat=0) bs∧r = .inl (Tx.tx ((Dr.kx p N.toNat bs:Nat):Int))
 | 2,r=>(∃(d:Nat) (u:Int),Dr.da p f a d u∧r = .inl (Tx.tx (d:Int)))∨((∀(d:Nat) (u:Int),¬Dr.da p f a d u)∧r = .inl "no")
 | 3,r=>(∃(d:Nat) (u x:Int),Dr.da p f a d u∧((N≤(d:Int)+1∧x=a%p^N.toNat)∨((d:Int)+1<N∧Dr.iM p f a d N.toNat x))∧r = .inl (Tx.tx x))∨((∀(d:Nat) (u:Int),¬Dr.da p f a d u)∧r = .inr "NoSingle")
 | 4,r=>(∃L M:List Int,Dr.Found p N.toNat 60 0 0 f M∧L.Perm M∧L.Pairwise (·≤·)∧r = .inl (lE (L.map Tx.tx)))∨((∀x,x∈f→x=0)∧r = .inr "NoDepth")∨(Dr.vK p 60 f∧(∃x,x∈f∧x≠0)∧r = .inr "TooDeep")
 | 5,r=>∃ms:List (Int×Int),lI p f ms∧((ms≠[]∧r = .inl (lE ((oi ms).map (pt (Str.ofString ":")))))∨(ms=[]∧r = .inr "NoDepth"))
 | 6,r=>((m<1∨p^N.toNat≤2*m*m)∧r = .inr "NoSmall")∨(¬(m<1∨p^N.toNat≤2*m*m)∧r = .inl (Kl (rP p (p^N.toNat) (a%p^N.toNat) m)))
 | _,r=>r = .inl (Tx.shown f)
section
variable {p:Int}{f:List Int}{a N m:Int}
theorem eZ.solve {bs:List (Int×Nat)}(h:Dr.Solve p (λx=>Dr.aA f x%p^N.toNat=0) bs):eZ p f a N m 0 (.inl (lE ((bs.map rD).map (pt (Str.ofString "@"))))):=⟨bs,h,rfl⟩
theorem eZ.count {bs:List (Int×Nat)}(h:Dr.Solve p (λx=>Dr.aA f x%p^N.toNat=0) bs):eZ p f a N m 1 (.inl (Tx.tx ((Dr.kx p N.toNat bs:Nat):Int))):=⟨bs,h,rfl⟩
theorem eZ.single {d:Nat}{u:Int}(h:Dr.da p f a d u):eZ p f a N m 2 (.inl (Tx.tx (d:Int))):=.inl ⟨d,u,h,rfl⟩
theorem eZ.zg (h:∀(d:Nat) (u:Int),¬Dr.da p f a d u):eZ p f a N m 2 (.inl "no"):=.inr ⟨h,rfl⟩
theorem eZ.root {d:Nat}{u x:Int}(h:Dr.da p f a d u)(e:(N≤(d:Int)+1∧x=a%p^N.toNat)∨((d:Int)+1<N∧Dr.iM p f a d N.toNat x)):eZ p f a N m 3 (.inl (Tx.tx x)):=.inl ⟨d,u,x,h,e,rfl⟩
theorem eZ.D7 (h:∀(d:Nat) (u:Int),¬Dr.da p f a d u):eZ p f a N m 3 (.inr "NoSingle"):=.inr ⟨h,rfl⟩
theorem eZ.roots {L M:List Int}(h:Dr.Found p N.toNat 60 0 0 f M)(e:L.Perm M)(s:L.Pairwise (·≤·)):eZ p f a N m 4 (.inl (lE (L.map Tx.tx))):=.inl ⟨L,M,h,e,s,rfl⟩
theorem eZ.je (h:∀x,x∈f→x=0):eZ p f a N m 4 (.inr "NoDepth"):=.inr (.inl ⟨h,rfl⟩)
theorem eZ.deep (h:Dr.vK p 60 f)(n:∃x,x∈f∧x≠0):eZ p f a N m 4 (.inr "TooDeep"):=.inr (.inr ⟨h,n,rfl⟩)
theorem eZ.oM {ms:List (Int×Int)}(h:lI p f ms)(n:ms≠[]):eZ p f a N m 5 (.inl (lE ((oi ms).map (pt (Str.ofString ":"))))):=⟨ms,h,.inl ⟨n,rfl⟩⟩
theorem eZ.zf (h:lI p f []):eZ p f a N m 5 (.inr "NoDepth"):=⟨[],h,.inr ⟨rfl,rfl⟩⟩
theorem eZ.BM (h:m<1∨p^N.toNat≤2*m*m):eZ p f a N m 6 (.inr "NoSmall"):=.inl ⟨h,rfl⟩
theorem eZ.small (h:¬(m<1∨p^N.toNat≤2*m*m)):eZ p f a N m 6 (.inl (Kl (rP p (p^N.toNat) (a%p^N.toNat) m))):=.inr ⟨h,rfl⟩
theorem eZ.B2:eZ p f a N m 7 (.inl (Tx.shown f)):=rfl
end
theorem yN {p:Int}{N n:Nat}{a:Int}{e:Nat}{f M:List Int}(h:Dr.Found p N n a e f M)(z:∀x,x∈f→x=0):False:=by
 cases n with
 | zero=>exact h
 | succ n=>
  obtain⟨c,hc,_⟩:=h
  obtain⟨x,hx,n0⟩:=Dr.iZ hc
  obtain⟨y,hy,rfl⟩:=List.mem_map.mp hx
  rw [z y hy] at n0
  simp at n0
theorem eZ.uniq {p:Int}{f:List Int}{a N m:Int}{w:Nat}{r r':Str⊕Str}(hp:p∈Dr.cm)(h:eZ p f a N m w r)(h':eZ p f a N m w r'):r=r':=by
 have p2:2≤p:=by have:=Dr.cy hp;omega
 match w,h,h' with
 | 0,⟨_,h1,e1⟩,⟨_,h2,e2⟩=>rw [e1,e2,h1.uniq p2 h2 λ_=>Iff.rfl]
 | 1,⟨_,h1,e1⟩,⟨_,h2,e2⟩=>rw [e1,e2,h1.uniq p2 h2 λ_=>Iff.rfl]
 | 2,h,h'=>
  rcases h with⟨d,u,h1,e1⟩|⟨n1,e1⟩<;>rcases h' with⟨d',u',h2,e2⟩|⟨n2,e2⟩
  ·rw [e1,e2,da.uniq p2 h1 h2]
  ·exact absurd h1 (n2 _ _)
  ·exact absurd h2 (n1 _ _)
  ·rw [e1,e2]
 | 3,h,h'=>
  rcases h with⟨d,u,x,h1,k1,e1⟩|⟨n1,e1⟩<;>rcases h' with⟨d',u',x',h2,k2,e2⟩|⟨n2,e2⟩
  ·obtain rfl:=da.uniq p2 h1 h2
   have ex:x=x':=by
    rcases k1 with⟨c1,w1⟩|⟨c1,w1⟩<;>rcases k2 with⟨c2,w2⟩|⟨c2,w2⟩
    ·rw [w1,w2]
    ·exact absurd c1 (Int.not_le.mpr c2)
    ·exact absurd c2 (Int.not_le.mpr c1)
    ·exact Dr.iM.uniq hp h1 w1 w2
   rw [e1,e2,ex]
  ·exact absurd h1 (n2 _ _)
  ·exact absurd h2 (n1 _ _)
  ·rw [e1,e2]
 | 4,h,h'=>
  rcases h with⟨L,M,h1,k1,s1,e1⟩|⟨z1,e1⟩|⟨d1,⟨y1,hy1,n1⟩,e1⟩<;>rcases h' with⟨L',M',h2,k2,s2,e2⟩|⟨z2,e2⟩|⟨d2,⟨y2,hy2,n2⟩,e2⟩
  ·rw [Dr.Found.fn hp h2 h1] at k2
   rw [e1,e2,xl s1 s2 (k1.trans k2.symm)]
  ·exact (yN h1 z2).elim
  ·exact absurd d2 (h1.uj p2)
  ·exact (yN h2 z1).elim
  ·rw [e1,e2]
  ·exact absurd (z1 y2 hy2) n2
  ·exact absurd d1 (h2.uj p2)
  ·exact absurd (z2 y1 hy1) n1
  ·rw [e1,e2]
 | 5,⟨ms,h1,k1⟩,⟨ms',h2,k2⟩=>
  obtain rfl:=h1.uniq p2 h2
  rcases k1 with⟨c1,e1⟩|⟨c1,e1⟩<;>rcases k2 with⟨c2,e2⟩|⟨c2,e2⟩
  ·rw [e1,e2]
  ·exact absurd c2 c1
  ·exact absurd c1 c2
  ·rw [e1,e2]
 | 6,h,h'=>
  rcases h with⟨c1,e1⟩|⟨c1,e1⟩<;>rcases h' with⟨c2,e2⟩|⟨c2,e2⟩
  ·rw [e1,e2]
  ·exact absurd c1 c2
  ·exact absurd c2 c1
  ·rw [e1,e2]
 | n+7,h,h'=>exact Eq.trans h (Eq.symm h')
structure iT (K:PySem.W.Frag)(H:Hp)(p:Int)(b:Addr)(f:List Int)(a N m:Int):Prop where
 sq:az K H b (f.map V.int)
 len:0<f.length∧f.length≤13
 pr:p∈Dr.cm
 bits:Dr.bX f 190
 ra:-200≤a∧a≤200
 dN:0≤N∧N≤60
 rm:-200≤m∧m≤200
def Out (K:PySem.W.Frag)(Q:VK)(E:XK):Str⊕Str→Hp→Prop
 | .inl s,H=>Q (.str s) H
 | .inr C,H=>E (.ref (cq K C)) none H
def spT (w:Nat)(th:V→V→V→V→List V)(K:PySem.W.Frag):Sp:=λvs H Q E=>∃(p:Int) (t b:Addr) (f:List Int) (a N m:Int),vs=[.int p,.ref t]∧az K H t (th (.ref b) (.int a) (.int N) (.int m))∧iT K H p b f a N m∧∀(r:Str⊕Str) (H':Hp),eZ p f a N m w r→aL H H'→Out K Q E r H'
theorem ja (a b:Str):(a++b).length=a.length+b.length:=Array.size_append
structure PG (b:Int×Int):Prop where
 b1:b.1.natAbs<10^182
 b2:b.2.natAbs<10^12
theorem wm {x:Int}(h:x.natAbs<10^182):(Tx.tx x).length≤183:=by
 unfold Tx.tx
 rw [ofString_length]
 exact int_text_length_le10 (by decide) h
theorem EG {x:Int}(h:x.natAbs<10^12):(Tx.tx x).length≤13:=by
 unfold Tx.tx
 rw [ofString_length]
 exact int_text_length_le10 (by decide) h
theorem fB {x:Int}(h:x.natAbs<10^182):x.natAbs.log2<1920:=oR (Nat.lt_of_lt_of_le h (by decide +kernel))
theorem jL {x:Int}(h:x.natAbs<10^12):x.natAbs.log2<1920:=oR (Nat.lt_of_lt_of_le h (by decide +kernel))
theorem PG.size {b:Int×Int}{c:Str}(hc:c.length=1)(h:PG b):(pt c b).length≤200:=by
 have h1:=wm h.b1
 have h2:=EG h.b2
 unfold pt
 rw [ja,ja]
 omega
theorem PG.len {b:Int×Int}{c:Str}(hc:c.length=1)(h:PG b):(Str.ofString (toString b.1)++c++Str.ofString (toString b.2)).length≤sizeLine:=Nat.le_trans (h.size hc) (by decide)
theorem PG.left {b:Int×Int}{c:Str}(hc:c.length=1)(h:PG b):(Str.ofString (toString b.1)++c).length≤sizeLine:=by
 have h1:=wm h.b1
 unfold Tx.tx at h1
 rw [ja]
 exact Nat.le_trans (show _≤184 by omega) (by decide)
theorem oJ:(Str.ofString "@").length=1:=by decide +kernel
theorem oN:(Str.ofString ":").length=1:=by decide +kernel
theorem vz:(Str.ofString "/").length=1:=by decide +kernel
theorem lq {p x:Int}{N:Nat}(hp:2≤p∧p<1000)(hN:N≤60)(h:0≤x∧x<p^N):x.natAbs<10^182:=by
 have h2:=i6 (p:=p) hp N
 have h3:(2:Nat)^(10*N+1)≤2^601:=Nat.pow_le_pow_right (by decide) (by omega)
 have h4:(2:Nat)^601≤10^182:=by decide +kernel
 generalize (10:Nat)^182=M1 at h4 ⊢
 generalize (2:Nat)^601=M2 at h3 h4
 generalize (2:Nat)^(10*N+1)=M3 at h2 h3
 omega
theorem mw {x:Int}(h:x.natAbs≤100000):x.natAbs<10^12:=Nat.lt_of_le_of_lt h (by decide)
theorem zb {x:Int}(h:x.natAbs≤100000):x.natAbs<10^182:=Nat.lt_of_le_of_lt h (by decide +kernel)
theorem vB {p:Int}{Sol:Int→Prop}{bs:List (Int×Nat)}{N:Int}(hp:p∈Dr.cm)(hN:0≤N∧N≤60)(so:Dr.Solve p Sol bs)(hd:∀b,b∈bs→b.2≤N.toNat):∀b,b∈bs.map rD→PG b:=λb hb=>by
 obtain⟨c,hc,rfl⟩:=List.mem_map.mp hb
 have p2:=Dr.cy hp
 have h1:=hd c hc
 have h2:=so.tree.ok c hc
 exact⟨lq (p:=p) (N:=c.2) (by omega) (by omega) ⟨h2.2.1,h2.2.2.1⟩,mw (show ((c.2:Int)).natAbs≤100000 by omega)⟩
theorem wO {J:List (Int×Int)}(h:Dr.fF J<2^15):∀b,b∈J→PG b:=λb hb=>by
 have:=Dr.wy hb
 have e15:(2:Nat)^15=32768:=by decide
 exact⟨zb (by omega),mw (by omega)⟩
theorem BL {p:Int}{M:Nat}(hp:2≤p):∀bs:List (Int×Nat),Dr.kx p M bs≤bs.length*p.toNat^M
 | []=>by simp [Dr.kx]
 | b::bs=>by
  have h1:=BL (M:=M) hp bs
  have h2:p.toNat^(M-b.2)≤p.toNat^M:=Nat.pow_le_pow_right (by omega) (by omega)
  unfold Dr.kx at h1 ⊢
  simp only [List.map_cons,List.sum_cons,List.length_cons,Nat.succ_mul]
  omega
theorem zc {p N:Int}{bs:List (Int×Nat)}(hp:p∈Dr.cm)(hN:0≤N∧N≤60)(lb:bs.length≤13):(Dr.kx p N.toNat bs)<10^190:=by
 have p2:=Dr.cy hp
 have h1:=BL (M:=N.toNat) (show 2≤p by omega) bs
 have h2:p.toNat^N.toNat≤128^60:=Nat.le_trans (Nat.pow_le_pow_left (show p.toNat≤128 by omega) _) (Nat.pow_le_pow_right (by decide) (by omega))
 have h3:=Nat.mul_le_mul lb h2
 have h4:13*128^60<10^190:=by decide +kernel
 generalize (10:Nat)^190=M1 at h4 ⊢
 generalize (128:Nat)^60=M2 at h2 h3 h4
 omega
theorem mv {K:PySem.W.Frag}{te:TE}{σ:St}{H1:Hp}{Q:VK}{c:Addr}{as:List Addr}{fs:List (Int×Int)}(sep:Str)(hl:fs.length≤13)(k1:H1 c=some (.lst (as.map V.ref)))(hI:cZ H1 as fs)(bx:∀b,b∈fs→PG b)(hte:∀(b:Int×Int) (H:Hp) (Q:VK),PG b→Q (.str (pt sep b)) H→te (some (.int b.1)::some (.int b.2)::cg [] σ) H Q)
    (q:∀l,H1 l=none→Q (.ref l) (upd H1 l (.lst ((fs.map (pt sep)).map V.str)))):oC (mL K c) [] (pK K 2 (ic (fk 0) (ic (fk 1) pJ))) (λ_ H Q=>Q true H) te σ H1 Q:=by
  obtain⟨Pv,hPv⟩:∃Pv:Nat→List V→Hp→Prop,∀i ys H',Pv i ys H'↔(H'=H1∧ys=((fs.take i).map (pt sep)).map V.str):=⟨_,λ_ _ _=>Iff.rfl⟩
  refine IC (fs:=fs) Pv (Nat.le_trans hl (by decide)) ((hPv _ _ _).mpr ⟨rfl,rfl⟩) (λi ys H2 z=>by rw [((hPv _ _ _).mp z).1];exact⟨az.of k1,hI⟩) (λi x ys H2 hx z=>?_) (λys H2 z l2 n2=>?_)
  · obtain⟨rfl,rfl⟩:=(hPv _ _ _).mp z
    rw [if_pos rfl]
    refine hte x _ _ (bx x (List.mem_of_getElem? hx)) ((hPv _ _ _).mpr ⟨rfl,?_⟩)
    rw [i9 hx,List.map_append,List.map_append]
    rfl
  · obtain⟨rfl,rfl⟩:=(hPv _ _ _).mp z
    rw [List.take_length]
    exact q l2 n2
theorem qc {sep:Str}{fs:List (Int×Int)}(hs:sep.length=1)(hl:fs.length≤13)(bx:∀b,b∈fs→PG b):(fs.map (pt sep)).length≤14∧∀t,t∈fs.map (pt sep)→t.length≤200:=⟨by rw [List.length_map];omega,λt ht=>by
 obtain⟨c,hc,rfl⟩:=List.mem_map.mp ht
 exact (bx c hc).size hs⟩
theorem nR {K:PySem.W.Frag}{te:TE}{σ:St}{H1:Hp}{Q:VK}{c:Addr}{L:List Int}(hl:L.length≤14)(hS:az K H1 c (L.map V.int))(bx:∀x,x∈L→x.natAbs<10^182)(hte:∀(x:Int) (H:Hp) (Q:VK),x.natAbs<10^182→Q (.str (Tx.tx x)) H→te (some (.int x)::cg [] σ) H Q)
    (q:∀l,H1 l=none→Q (.ref l) (upd H1 l (.lst ((L.map Tx.tx).map V.str)))):iU (mL K c) [] (λ_ H Q=>Q true H) te σ H1 Q:=by
  obtain⟨Pv,hPv⟩:∃Pv:Nat→List V→Hp→Prop,∀i ys H',Pv i ys H'↔(H'=H1∧ys=((L.take i).map Tx.tx).map V.str):=⟨_,λ_ _ _=>Iff.rfl⟩
  (first | refine hX _ _ ?_ | skip);refine r8 L Pv (Nat.le_trans hl (by decide)) ((hPv _ _ _).mpr ⟨rfl,rfl⟩) (λi ys H2 p=>?_) (λi x ys H2 hx p=>?_) (λys H2 p l2 n2=>?_)
  · rw [((hPv _ _ _).mp p).1]
    exact hS
  · obtain⟨rfl,rfl⟩:=(hPv _ _ _).mp p
    rw [if_pos rfl]
    refine hte x _ _ (bx x (List.mem_of_getElem? hx)) ((hPv _ _ _).mpr ⟨rfl,?_⟩)
    rw [i9 hx,List.map_append,List.map_append]
    rfl
  · obtain⟨rfl,rfl⟩:=(hPv _ _ _).mp p
    rw [List.take_length]
    exact q l2 n2
theorem BN {L:List Int}(hl:L.length≤14)(bx:∀x,x∈L→x.natAbs<10^182):(L.map Tx.tx).length≤14∧∀t,t∈L.map Tx.tx→t.length≤200:=⟨by rw [List.length_map];exact hl,λt ht=>by
 obtain⟨x,hx,rfl⟩:=List.mem_map.mp ht
 exact Nat.le_trans (wm (bx x hx)) (by decide)⟩
theorem PG.E5 {b:Int×Int}{c:Str}(hc:c.length=1)(h:PG b):(Str.ofString (toString b.1)).length+c.length≤sizeLine:=by
 rw [←ja]
 exact h.left hc
theorem PG.E6 {b:Int×Int}{c:Str}(hc:c.length=1)(h:PG b):(Str.ofString (toString b.1)++c).length+(Str.ofString (toString b.2)).length≤sizeLine:=by
 rw [←ja]
 exact h.len hc
def fy (K:PySem.W.Frag):Sp:=λvs H Q _=>∃(a:Addr) (ts:List Str),vs=[.ref a,.str "none"]∧az K H a (ts.map V.str)∧(ts.length≤14∧∀t,t∈ts→t.length≤200)∧Q (.str (lE ts)) H
theorem Ec (B:Bi mg K w)(F:cD K "listed" "listed" lx f fd):bc P w K mg base cY 1 f fd ["texts","without"] (fy K):=by
 refine F.ok ym (λvs H Q E h=>?_) (λcdv A outer s H vs Q E hr h=>?_)
 ·obtain⟨a,ts,rfl,_⟩:=h
  rfl
 obtain⟨a,ts,rfl,hS,hl,q⟩:=h
 have S:=ym
 refine⟨_,((af (bN (aF cP (aZ cv rfl B.eI PySem.boot_len (aa (pv 0) ae)) ag (aQ _)) (ak (aC (pv 1))) aR)
  (ak (aC (jf PySem.F.plainAttrs_str PySem.F.slot_str_join PySem.F.type_str_join oS bH (aa (pv 0) ae)))))),?_⟩
 walk_at "q"
 refine⟨_,.inl hS,?_⟩
 rw [List.length_map]
 unfold lE at q
 by_cases c:ts=[]
 ·rw [if_pos c] at q
  rw [if_pos (by rw [c];rfl)]
  exact q
 ·rw [if_neg c] at q
  rw [if_neg (by cases ts with | nil=>exact absurd rfl c | cons t ts=>simp;omega)]
  refine⟨rfl,_,a,ts,rfl,rfl,hS,ve hl.1 hl.2,?_⟩
  rw [Tx.join_eq]
  exact q
abbrev rT (K:PySem.W.Frag):Sp:=spT 7 (λb _ _ _=>[b]) K
theorem kN {f:List Int}(h:Dr.bX f 190):∀x,x∈f→x.natAbs<10^60:=λx hx=>Nat.lt_of_lt_of_le (h x hx) (by decide +kernel)
theorem za {x:Int}(h:x.natAbs<10^60):x.natAbs<10^190:=Nat.lt_of_lt_of_le h (by decide +kernel)
theorem iT.hp {K:PySem.W.Frag}{H:Hp}{p:Int}{b:Addr}{f:List Int}{a N m:Int}(A:iT K H p b f a N m):2≤p∧p<1000:=by
 have:=Dr.cy A.pr
 omega
theorem iT.GN {K:PySem.W.Frag}{H:Hp}{p:Int}{b:Addr}{f:List Int}{a N m:Int}(A:iT K H p b f a N m):Dr.Sm a 100:=fM 200 (by have:=A.ra;omega) (by decide)
theorem iT.Km {K:PySem.W.Frag}{H:Hp}{p:Int}{b:Addr}{f:List Int}{a N m:Int}(A:iT K H p b f a N m):Dr.Sm m 100:=fM 200 (by have:=A.rm;omega) (by decide)
theorem iT.same {K:PySem.W.Frag}{H H':Hp}{p:Int}{b:Addr}{f:List Int}{a N m:Int}(A:iT K H p b f a N m)(g:aL H H'):iT K H' p b f a N m:=⟨g.seq A.sq,A.len,A.pr,A.bits,A.ra,A.dN,A.rm⟩
theorem zy (B:Bi mg K w)(A1:Def P w K mg base "show_poly" 1 ["f"] (nD K))(F:cD K "told_show" "told_show" iI f fd):bc P w K mg base (eh P w) 2 f fd ["p","things"] (rT K):=by
 refine F.jM tI (λvs H Q E h=>?_) (λcdv A outer s H vs Q E hr h=>?_)
 ·obtain⟨p,t,b,f,a,N,m,rfl,_⟩:=h
  rfl
 obtain⟨p,t,b,f,a,N,m,rfl,hT,A,q⟩:=h
 dsimp only at hT
 have S:=tI
 refine⟨_,((ak (aC (aD A1 hr rfl (aa (ba bK (pv 1) ag (λ_ _=>rfl)) ae))))),?_⟩
 walk_at "q";(try simp only [nD]);try walk_at "dr1"
 exact⟨_,hT,_,aM (j:=0) rfl,b,rfl,f,A.sq,by have:=A.len;omega,(λx hx=>za (kN A.bits x hx)),λH' g=>q _ H' .B2 g⟩
abbrev qv (K:PySem.W.Frag):Sp:=spT 0 (λb _ N _=>[b,N]) K
theorem xQ (B:Bi mg K w)(gw:Def P w K mg base "solving_balls" 67 ["p","f","N"] (aO K))(mU:Def P w K mg base "listed" 1 ["texts","without"] (fy K))(F:cD K "told_solve" "told_solve" gZ f fd):bc P w K mg base (eh P w) 68 f fd ["p","things"] (qv K):=by
 refine F.jM qT (λvs H Q E h=>?_) (λcdv A outer s H vs Q E hr h=>?_)
 ·obtain⟨p,t,b,f,a,N,m,rfl,_⟩:=h
  rfl
 obtain⟨p,t,b,f,a,N,m,rfl,hT,A,q⟩:=h
 dsimp only at hT
 have S:=qT
 refine⟨_,((af (aB (i:=2) S.nd rfl (Or.inl rfl) (aD gw hr rfl (aa (pv 0) (aa (ba bK (pv 1) ag (λ_ _=>rfl)) (aa (ba bK (pv 1) ag (λ_ _=>rfl)) ae)))))
  (ak (aC (aD mU hr rfl (aa (pU [] [] rfl rfl trivial trivial rfl rfl (by decide) (by decide) rfl rfl rfl (by decide) (d3 (pv 2)) (λ_ _ _ _=>dG) (λ_ _ _ _=>(zD (pv 0) (pv 1)))) (aa bH ae))))))),?_⟩
 walk_at "p";(try simp only [aO,fy]);try walk_at "dr2"
 refine⟨_,hT,_,aM (j:=0) rfl,_,hT,_,aM (j:=1) rfl,b,rfl,f,N,rfl,A.sq,A.len.1,A.len.2,A.pr,A.dN.1,A.dN.2,190,A.bits,by decide,λc as bs H1 so lb hd nc g1 k1 hP=>?_⟩
 have hI:=hP.ints
 have bx:=vB A.pr A.dN so hd
 have q:=λH'=>q _ H' (.solve so)
 have lb:(bs.map rD).length≤13:=by rw [List.length_map];exact lb
 generalize bs.map rD=fs at hI bx q lb
 walk_at "q";(try simp only [aO,fy]);try walk_at "dr1"
 refine⟨⟨_,az.of k1⟩,?_⟩
 refine mv (Str.ofString "@") lb k1 hI bx (λb H Q pg q=>?_) λl2 n2=>?_
 ·walk_at "q";(try simp only [aO,fy]);try walk_at "dr1"
  exact⟨fB pg.b1,pg.left oJ,jL pg.b2,pg.len oJ,q⟩
 ·have wo:=qc oJ lb bx
  exact⟨l2,rfl,_,az.of aS,wo.1,wo.2,q _ (g1.trans (eC n2))⟩
abbrev qr (K:PySem.W.Frag):Sp:=spT 1 (λb _ N _=>[b,N]) K
theorem xN (B:Bi mg K w)(kn:Def P w K mg base "solving_rests" 68 ["p","f","N"] (aX K))(F:cD K "told_count" "told_count" gW f fd):bc P w K mg base (eh P w) 69 f fd ["p","things"] (qr K):=by
 refine F.jM qQ (λvs H Q E h=>?_) (λcdv A outer s H vs Q E hr h=>?_)
 ·obtain⟨p,t,b,f,a,N,m,rfl,_⟩:=h
  rfl
 obtain⟨p,t,b,f,a,N,m,rfl,hT,A,q⟩:=h
 dsimp only at hT
 have S:=qQ
 refine⟨_,((ak (aC (cb cj rfl B.ez L2.dD (aa (aD kn hr rfl (aa (pv 0) (aa (ba bK (pv 1) ag (λ_ _=>rfl)) (aa (ba bK (pv 1) ag (λ_ _=>rfl)) ae)))) ae))))),?_⟩
 walk_at "q";(try simp only [aX]);try walk_at "dr1"
 exact⟨_,hT,_,aM (j:=0) rfl,_,hT,_,aM (j:=1) rfl,b,rfl,f,N,rfl,A.sq,A.len.1,A.len.2,A.pr,A.dN.1,A.dN.2,190,A.bits,by decide,λbs H' so lb g=>⟨oR (by have:=zc (N:=N) A.pr A.dN lb;omega),q _ H' (.count so) g⟩⟩
abbrev o8 (K:PySem.W.Frag):Sp:=spT 2 (λb a _ _=>[b,a]) K
theorem y8 {d:Nat}(h:d≤100000):((d:Int).natAbs).log2<1920:=jL (mw (by omega))
theorem v8 (B:Bi mg K w)(gJ:Def P w K mg base "single_depth" 2 ["p","f","a"] (aN K))(F:cD K "told_single" "told_single" gn f fd):bc P w K mg base (eh P w) 3 f fd ["p","things"] (o8 K):=by
 refine F.jM qk (λvs H Q E h=>?_) (λcdv A outer s H vs Q E hr h=>?_)
 ·obtain⟨p,t,b,f,a,N,m,rfl,_⟩:=h
  rfl
 obtain⟨p,t,b,f,a,N,m,rfl,hT,A,q⟩:=h
 dsimp only at hT
 have S:=qk
 have hp:=A.hp
 refine⟨_,((af (aB (i:=2) S.nd rfl (Or.inl rfl) (aD gJ hr rfl (aa (pv 0) (aa (ba bK (pv 1) ag (λ_ _=>rfl)) (aa (ba bK (pv 1) ag (λ_ _=>rfl)) ae)))))
  (ak (aC (zE (aF vn (pv 2) jN (aQ _)) bH (cb cj rfl B.ez L2.dD (aa (pv 2) ae))))))),?_⟩
 walk_at "p";(try simp only [aN]);try walk_at "dr2"
 refine⟨_,hT,_,aM (j:=0) rfl,_,hT,_,aM (j:=1) rfl,b,rfl,f,a,rfl,A.sq,A.len.1,A.len.2,190,A.bits,100,A.GN,by decide,by decide,hp.1,hp.2,λH' g=>⟨λd u hs hd=>?_,λno=>?_⟩⟩
 ·have hY:=hX
  walk_at "q";(try simp only [aN]);try walk_at "dr1"
  exact⟨y8 hd,q _ H' (.single hs) g⟩
 ·walk_at "q";(try simp only [aN]);try walk_at "dr1"
  exact q _ H' (.zg no) g
abbrev rS (K:PySem.W.Frag):Sp:=spT 3 (λb a N _=>[b,a,N]) K
theorem zx (B:Bi mg K w)(lQ:gz P w K mg base "root_of" 4 ["p","f","a","N"] (bE K))(F:cD K "told_root" "told_root" iH f fd):bc P w K mg base (eh P w) 5 f fd ["p","things"] (rS K):=by
 refine F.jM tH (λvs H Q E h=>?_) (λcdv A outer s H vs Q E hr h=>?_)
 ·obtain⟨p,t,b,f,a,N,m,rfl,_⟩:=h
  rfl
 obtain⟨p,t,b,f,a,N,m,rfl,hT,A,q⟩:=h
 dsimp only at hT
 have S:=tH
 have hp:=A.hp
 have q0:=Dr.pow_pos hp.1 N.toNat
 have hN:=A.dN
 refine⟨_,((ak (aC (cb cj rfl B.ez L2.dD (aa (e8 ig lQ hr rfl (aa (pv 0) (aa (ba bK (pv 1) ag (λ_ _=>rfl)) (aa (ba bK (pv 1) ag (λ_ _=>rfl)) (aa (ba bK (pv 1) ag (λ_ _=>rfl)) ae))))) ae))))),?_⟩
 walk_at "q";(try simp only [bE]);try walk_at "dr1"
 refine⟨_,hT,_,aM (j:=0) rfl,_,hT,_,aM (j:=1) rfl,_,hT,_,aM (j:=2) rfl,b,rfl,f,a,rfl,N,rfl,A.sq,A.len.1,A.len.2,A.pr,190,A.bits,100,A.GN,by decide,by decide,.inl ⟨by decide,by decide⟩,hN.1,hN.2,λH' g=>⟨λd u hs=>⟨λc=>⟨fB (lq hp (by omega) (dO a q0)),q _ H' (.root hs (.inl ⟨c,rfl⟩)) g⟩,λc r R=>⟨fB (lq hp (by omega) ⟨R.lo,R.hi⟩),q _ H' (.root hs (.inr ⟨c,R⟩)) g⟩⟩,λno=>q _ H' (.D7 no) g⟩⟩
theorem ud {p:Int}{N:Nat}(hp:2≤p):∀{n:Nat} {a:Int} {e:Nat} {s L:List Int},Dr.Found p N n a e s L→∀x,x∈L→0≤x∧x<p^N
 | 0,_,_,_,_,h=>False.elim h
 | n+1,a,e,s,L,⟨c,_,fl⟩=>by
  generalize Dr.vw p (Dr.dJ (p^c) s)=rs at fl
  generalize Dr.dJ (p^c) s=g at fl
  induction fl with
  | nil=>exact λx hx=>nomatch hx
  | rB _ _ _ hf ih=>exact λx hx=>(List.mem_append.mp hx).elim (ih x) (ud hp hf x)
  | leaf _ _ _ ih=>
   refine λx hx=>(List.mem_append.mp hx).elim (ih x) λz=>?_
   rw [List.mem_singleton.mp z]
   exact dO _ (Dr.pow_pos hp N)
abbrev qt (K:PySem.W.Frag):Sp:=spT 4 (λb _ N _=>[b,N]) K
theorem xO (B:Bi mg K w)(km:gz P w K mg base "endless_roots" 66 ["p","f","N"] (aT K))(mU:Def P w K mg base "listed" 1 ["texts","without"] (fy K))(F:cD K "told_roots" "told_roots" gX f fd):bc P w K mg base (eh P w) 67 f fd ["p","things"] (qt K):=by
 refine F.jM qR (λvs H Q E h=>?_) (λcdv A outer s H vs Q E hr h=>?_)
 ·obtain⟨p,t,b,f,a,N,m,rfl,_⟩:=h
  rfl
 obtain⟨p,t,b,f,a,N,m,rfl,hT,A,q⟩:=h
 dsimp only at hT
 have S:=qR
 have hp:=A.hp
 have hN:=A.dN
 have hl:=A.len
 refine⟨_,((ak (aC (aD mU hr rfl (aa (eU [] [] rfl rfl trivial trivial rfl rfl (by decide) (by decide) rfl rfl (by decide) (d3 (e8 ig km hr rfl (aa (pv 0) (aa (ba bK (pv 1) ag (λ_ _=>rfl)) (aa (ba bK (pv 1) ag (λ_ _=>rfl)) ae))))) (λ_ _ _ _=>dG) (λ_ _ _ _=>(cb cj rfl B.ez L2.dD (aa (pv 0) ae)))) (aa bH ae)))))),?_⟩
 walk_at "q";(try simp only [aT,fy]);try walk_at "dr1"
 refine⟨_,hT,_,aM (j:=0) rfl,_,hT,_,aM (j:=1) rfl,b,rfl,f,N,rfl,A.sq,A.len.1,A.len.2,A.pr,A.dN.1,A.dN.2,190,A.bits,by decide,(λz H' g=>q _ H' (.je z) g),(λd n H' g=>q _ H' (.deep d n) g),λc L M H1 hF pm so nc g1 kc=>?_⟩
 have eQ:=hF.eQ A.pr
 have lL:L.length≤14:=by rw [pm.length_eq];omega
 have bL:∀x,x∈L→x.natAbs<10^182:=λx hx=>lq hp (show N.toNat≤60 by omega) (ud hp.1 hF x (pm.mem_iff.mp hx))
 refine⟨⟨_,az.of kc⟩,nR lL (az.of kc) bL (λx H Q hx q=>?_) λl2 n2=>?_⟩
 ·walk_at "q";(try simp only [aT,fy]);try walk_at "dr1"
  exact⟨fB hx,q⟩
 ·have wo:=BN lL bL
  exact⟨l2,rfl,_,az.of aS,wo.1,wo.2,q _ _ (.roots hF pm so) (g1.trans (eC n2))⟩
abbrev o7 (K:PySem.W.Frag):Sp:=spT 5 (λb _ _ _=>[b]) K
theorem v7 (B:Bi mg K w)(om:gz P w K mg base "border_of" 3 ["p","f"] (bP K))(mU:Def P w K mg base "listed" 1 ["texts","without"] (fy K))(F:cD K "told_border" "told_border" gk f fd):bc P w K mg base (eh P w) 4 f fd ["p","things"] (o7 K):=by
 refine F.jM qj (λvs H Q E h=>?_) (λcdv A outer s H vs Q E hr h=>?_)
 ·obtain⟨p,t,b,f,a,N,m,rfl,_⟩:=h
  rfl
 obtain⟨p,t,b,f,a,N,m,rfl,hT,A,q⟩:=h
 dsimp only at hT
 have S:=qj
 have hp:=A.hp
 refine⟨_,((ak (aC (aD mU hr rfl (aa (pU [] [] rfl rfl trivial trivial rfl rfl (by decide) (by decide) rfl rfl rfl (by decide) (d3 (e8 ig om hr rfl (aa (pv 0) (aa (ba bK (pv 1) ag (λ_ _=>rfl)) ae)))) (λ_ _ _ _=>dG) (λ_ _ _ _=>(zD (pv 0) (pv 1)))) (aa bH ae)))))),?_⟩
 walk_at "q";(try simp only [bP,fy]);try walk_at "dr1"
 refine⟨_,hT,_,aM (j:=0) rfl,b,rfl,f,A.sq,hp.1,hp.2,A.len.2,(λx hx=>(A.bits x hx).mono (by decide)),λms hM=>⟨λe H' g=>q _ H' (.zf (e▸hM)) g,λn lb tb c as H1 nc g1 k1 hI=>?_⟩⟩
 have bx:=wO tb
 have q:=λH'=>q _ H' (.oM hM n)
 generalize oi ms=fs at hI bx q lb
 refine⟨⟨_,az.of k1⟩,?_⟩
 refine mv (Str.ofString ":") lb k1 hI bx (λb H Q pg q=>?_) λl2 n2=>?_
 ·walk_at "q";(try simp only [bP,fy]);try walk_at "dr1"
  exact⟨fB pg.b1,pg.left oN,jL pg.b2,pg.len oN,q⟩
 ·have wo:=qc oN lb bx
  exact⟨l2,rfl,_,az.of aS,wo.1,wo.2,q _ (g1.trans (eC n2))⟩
abbrev qu (K:PySem.W.Frag):Sp:=spT 6 (λ_ a N m=>[a,N,m]) K
theorem xP (B:Bi mg K w)(q8:Def P w K mg base "ball_of" 2 ["p","x","e"] (bS K))(jV:gz P w K mg base "small_fraction" 2 ["p","one","m"] (aG K))(F:cD K "told_small" "told_small" gY f fd):bc P w K mg base (eh P w) 3 f fd ["p","things"] (qu K):=by
 refine F.jM qS (λvs H Q E h=>?_) (λcdv A outer s H vs Q E hr h=>?_)
 ·obtain⟨p,t,b,f,a,N,m,rfl,_⟩:=h
  rfl
 obtain⟨p,t,b,f,a,N,m,rfl,hT,A,q⟩:=h
 dsimp only at hT
 have S:=qS
 have hp:=A.hp
 have hN:=A.dN
 refine⟨_,((af (aB (i:=2) S.nd rfl (Or.inl rfl) (e8 ig jV hr rfl (aa (pv 0) (aa (aD q8 hr rfl (aa (pv 0) (aa (ba bK (pv 1) ag (λ_ _=>rfl)) (aa (ba bK (pv 1) ag (λ_ _=>rfl)) ae)))) (aa (ba bK (pv 1) ag (λ_ _=>rfl)) ae)))))
  (af (bN (aF vn (pv 2) jN (aQ _)) (ak (aC bH)) aR)
  (af (aB (i:=3) S.nd rfl (Or.inl rfl) (ba cR (pv 2) ag (λ_ _=>rfl)))
  (af (aB (i:=4) S.nd rfl (Or.inl rfl) (ba cR (pv 2) ag (λ_ _=>rfl)))
  (ak (aC (zD (pv 3) (pv 4))))))))),?_⟩
 walk_at "p";(try simp only [bS,aG]);try walk_at "dr2"
 refine⟨_,hT,_,aM (j:=0) rfl,_,hT,_,aM (j:=1) rfl,a,rfl,N,rfl,hp.1,hp.2,hN.1,hN.2,λl H1 g1 nl k1=>⟨_,g1.seq hT,_,aM (j:=2) rfl,_,N,m,rfl,dC.of k1,hp.1,hp.2,hN.1,hN.2,A.Km,(λc H' g=>q _ H' (.BM c) (g1.trans g)),λc=>⟨λT B' c' H' e bT bB g kc=>?_,λe H' g=>?_⟩⟩⟩
 ·have b1:T.natAbs<10^182:=zb (by have:=A.rm;((try clear bB e hN hp k1 kc nl);omega))
  have b2:B'.natAbs<10^12:=mw (by have:=A.rm;((try clear b1 bT e hN hp k1 kc nl);omega))
  have pg:PG (T,B'):=⟨b1,b2⟩
  have h1:=pg.left vz
  have h2:=pg.len vz
  dsimp only at h1 h2
  walk_at "p";(try simp only [bS,aG]);try walk_at "dr2"
  walk_at "p";(try simp only [bS,aG]);try walk_at "dr2"
  refine⟨_,dC.of kc,_,aM (j:=0) rfl,?_⟩
  walk_at "p";(try simp only [bS,aG]);try walk_at "dr2"
  refine⟨_,dC.of kc,_,aM (j:=1) rfl,?_⟩
  walk_at "q";(try simp only [bS,aG]);try walk_at "dr1"
  refine⟨fB b1,h1,jL b2,h2,?_⟩
  have q:=q _ H' (.small c) (g1.trans g)
  rw [e] at q
  exact q
 ·walk_at "q";(try simp only [bS,aG]);try walk_at "dr1"
  have q:=q _ H' (.small c) (g1.trans g)
  rw [e] at q
  exact q
def mh (K:PySem.W.Frag):Sp:=λvs H Q _=>∃(p:Int) (t b c:Addr) (x:V) (f g:List Int),vs=[.int p,.ref t]∧az K H t [x,.ref b,.ref c]∧az K H b (f.map V.int)∧az K H c (g.map V.int)∧(0<f.length∧0<g.length∧f.length+g.length≤14)∧Dr.bX f 190∧Dr.bX g 190 ∧
 ∀(l:Addr) (r:List Int) (H':Hp),Dr.yi f g r→H l=none→aL H H'→H' l=some (.lst (r.map V.int))→Q (.ref l) H'
theorem xJ (B:Bi mg K w)(kQ:Def P w K mg base "poly_product" 1 ["f","g"] (de K))(F:cD K "made_times" "made_times" gS f fd):bc P w K mg base (eh P w) 2 f fd ["p","things"] (mh K):=by
 refine F.jM qN (λvs H Q E h=>?_) (λcdv A outer s H vs Q E hr h=>?_)
 ·obtain⟨p,t,b,c,x,f,g,rfl,_⟩:=h
  rfl
 obtain⟨p,t,b,c,x,f,g,rfl,hT,hb,hc,hl,pf,pg,q⟩:=h
 have S:=qN
 obtain⟨t1,dt⟩:=B.dt
 refine⟨_,((af (bN (aF lF (av ft (av cS (aZ cv rfl B.eI PySem.boot_len (aa (ba bK (pv 1) ag (λ_ _=>rfl)) ae)) (aZ cv rfl B.eI PySem.boot_len (aa (ba bK (pv 1) ag (λ_ _=>rfl)) ae))) ag) (ee (v:=.int 13) rfl dt ⟨_,rfl⟩) (aQ _)) (ak (lj wx rfl rfl B.Cn B.qg (aa bH ae))) aR)
  (ak (aC (aD kQ hr rfl (aa (ba bK (pv 1) ag (λ_ _=>rfl)) (aa (ba bK (pv 1) ag (λ_ _=>rfl)) ae))))))),?_⟩
 walk_at "p";(try simp only [de]);try walk_at "dr2"
 refine⟨_,hT,_,aM (j:=1) rfl,_,rfl,_,.inl hb,_,hT,_,aM (j:=2) rfl,_,rfl,_,.inl hc,?_⟩
 simp only [List.length_map]
 rw [if_neg (by (try clear dt);omega)]
 walk_at "p";(try simp only [de]);try walk_at "dr2"
 exact⟨_,hT,_,aM (j:=1) rfl,_,hT,_,aM (j:=2) rfl,b,rfl,c,rfl,f,hb,g,hc,hl.1,by (try clear dt);omega,hl.2.1,by (try clear dt);omega,190,pf,190,pg,by (try clear dt hl);omega,by (try clear dt hl);omega,λl r H' h1 _ h3 h4 h5=>q l r H' h1 h3 h4 h5⟩
def nC (K:PySem.W.Frag):Sp:=λvs H Q _=>∃(p:Int) (t b:Addr) (x:V) (f:List Int) (a e:Int) (m n:Nat),vs=[.int p,.ref t]∧az K H t [x,.ref b,.int a,.int e]∧az K H b (f.map V.int)∧(0<f.length∧f.length≤60)∧(2≤p∧p<1000)∧(0≤e∧e<1000)∧Dr.bX f m∧Dr.Sm a n∧(10*e.toNat+1≤n∧n≤15000∧m≤50000) ∧
 ∀(c:Addr) (s:List Int) (H':Hp),Dr.fU f a (p^e.toNat) s→H c=none→aL H H'→H' c=some (.lst (s.map V.int))→Q (.ref c) H'
theorem zq (B:Bi mg K w)(jJ:Def P w K mg base "seen_from" 2 ["p","f","a","e"] (cc K))(F:cD K "made_seen" "made_seen" iC f fd):bc P w K mg base (eh P w) 3 f fd ["p","things"] (nC K):=by
 refine F.jM tw (λvs H Q E h=>?_) (λcdv A outer s H vs Q E hr h=>?_)
 ·obtain⟨p,t,b,x,f,a,e,m,n,rfl,_⟩:=h
  rfl
 obtain⟨p,t,b,x,f,a,e,m,n,rfl,hT,hS,hl,hp,he,hf,ha,hmn,q⟩:=h
 have S:=tw
 refine⟨_,((ak (aC (aD jJ hr rfl (aa (pv 0) (aa (ba bK (pv 1) ag (λ_ _=>rfl)) (aa (ba bK (pv 1) ag (λ_ _=>rfl)) (aa (ba bK (pv 1) ag (λ_ _=>rfl)) ae)))))))),?_⟩
 walk_at "q";(try simp only [cc]);try walk_at "dr1"
 exact⟨_,hT,_,aM (j:=1) rfl,_,hT,_,aM (j:=2) rfl,_,hT,_,aM (j:=3) rfl,b,rfl,f,a,rfl,e,rfl,hS,hl.1,hl.2,hp.1,hp.2,he.1,he.2,m,hf,n,ha,hmn.1,hmn.2.1,hmn.2.2,λc s H' h1 _ h3 h4 h5=>q c s H' h1 h3 h4 h5⟩
def me (K:PySem.W.Frag):Sp:=λvs H Q _=>∃(p:Int) (t b:Addr) (x:V) (f:List Int) (m:Nat),vs=[.int p,.ref t]∧az K H t [x,.ref b]∧az K H b (f.map V.int)∧(0<f.length∧f.length≤60)∧Dr.bX f m∧m≤1000000 ∧
 ∀(l:Addr) (H':Hp),H l=none→aL H H'→H' l=some (.lst ((Dr.d7 f).map V.int))→Q (.ref l) H'
theorem xI (B:Bi mg K w)(ib:Def P w K mg base "slope_of" 1 ["f"] (bQ K))(F:cD K "made_slope" "made_slope" gR f fd):bc P w K mg base (eh P w) 2 f fd ["p","things"] (me K):=by
 refine F.jM qM (λvs H Q E h=>?_) (λcdv A outer s H vs Q E hr h=>?_)
 ·obtain⟨p,t,b,x,f,m,rfl,_⟩:=h
  rfl
 obtain⟨p,t,b,x,f,m,rfl,hT,hb,hl,pf,hm,q⟩:=h
 have S:=qM
 refine⟨_,((ak (aC (aD ib hr rfl (aa (ba bK (pv 1) ag (λ_ _=>rfl)) ae))))),?_⟩
 walk_at "q";(try simp only [bQ]);try walk_at "dr1"
 exact⟨_,hT,_,aM (j:=1) rfl,b,rfl,f,hb,hl.1,hl.2,m,pf,hm,λl H' _ h3 h4 h5=>q l H' h3 h4 h5⟩
inductive Rl (kvs:List (Key×V))(H H':Hp):List Kd→List Str→List V→Prop
 | nil:Rl kvs H H' [] [] []
 | cons {k:Kd} {z:Str} {v:V} {ks:List Kd} {zs:List Str} {vs:List V}:Rs kvs H H' k z v→Rl kvs H H' ks zs vs→Rl kvs H H' (k::ks) (z::zs) (v::vs)
theorem Rl.same {kvs:List (Key×V)}{H H' H2:Hp}{ks:List Kd}{zs:List Str}{vs:List V}(h:Rl kvs H H' ks zs vs)(g:aL H' H2):Rl kvs H H2 ks zs vs:=by
 induction h with
 | nil=>exact .nil
 | cons r _ ih=>exact .cons (r.same (aL.refl _) g) ih
theorem Rl.snoc {kvs:List (Key×V)}{H H':Hp}{ks:List Kd}{zs:List Str}{vs:List V}{k:Kd}{z:Str}{v:V}(h:Rl kvs H H' ks zs vs)(r:Rs kvs H H' k z v):Rl kvs H H' (ks++[k]) (zs++[z]) (vs++[v]):=by
 induction h with
 | nil=>exact .cons r .nil
 | cons r' _ ih=>exact .cons r' ih
inductive tJ (kvs:List (Key×V)):List Kd→List Str→Prop
 | nil:tJ kvs [] []
 | cons {k:Kd} {z:Str} {ks:List Kd} {zs:List Str}:Wd kvs k z→tJ kvs ks zs→tJ kvs (k::ks) (z::zs)
theorem tJ.len {kvs:List (Key×V)}{ks:List Kd}{zs:List Str}(h:tJ kvs ks zs):ks.length=zs.length:=by
 induction h with
 | nil=>rfl
 | cons _ _ ih=>simp [ih]
theorem tJ.at {kvs:List (Key×V)}{ks:List Kd}{zs:List Str}(h:tJ kvs ks zs){i:Nat}{k:Kd}{z:Str}(e1:ks[i]?=some k)(e2:zs[i]?=some z):Wd kvs k z:=by
 induction h generalizing i with
 | nil=>cases e1
 | cons w _ ih=>
  cases i with
  | zero=>cases e1;cases e2;exact w
  | succ i=>exact ih e1 e2
theorem Az {x:Int}(h:x.natAbs<10^60):Tx.valOf (Tx.tx x).cps.toList=x:=(Tx.vH h).2
theorem rQ {x:Int}(h:0≤x∧x≤60):x.natAbs<10^60:=Nat.lt_of_le_of_lt (show x.natAbs≤60 by omega) (by decide +kernel)
theorem AN {kvs:List (Key×V)}{N:Int}(h:0≤N∧N≤60):Wd kvs .depth (Tx.tx N):=.depth (Tx.vH (rQ h)).1 (by rw [Az (rQ h)];exact h)
theorem rX {kvs:List (Key×V)}{x:Int}(h:x.natAbs<10^60):Wd kvs .number (Tx.tx x):=.number (Tx.vH h).1
theorem Ic {kvs:List (Key×V)}{f:List Int}(h0:f≠[])(hf:f.length≤13)(hb:∀x,x∈f→x.natAbs<10^60):Wd kvs .fv (Tx.shown f):=.fv (by
 have:=Tx.ue (ms:=f) (by omega) hb
 exact Nat.le_trans this (by decide)) (Tx.vy h0 hf hb)
theorem Rl.inv {kvs:List (Key×V)}{H H':Hp}{k:Kd}{z:Str}{ks:List Kd}{zs:List Str}{vs:List V}(h:Rl kvs H H' (k::ks) (z::zs) vs):∃v vs',vs=v::vs'∧Rs kvs H H' k z v∧Rl kvs H H' ks zs vs':=by
 cases h with
 | cons r t=>exact⟨_,_,rfl,r,t⟩
theorem Rl.pN {kvs:List (Key×V)}{H H':Hp}{vs:List V}(h:Rl kvs H H' [] [] vs):vs=[]:=by
 cases h
 rfl
theorem Rs.nh {kvs:List (Key×V)}{H H':Hp}{z:Str}{v:V}(h:Rs kvs H H' .name z v):dB kvs (Sum.inr z)=some v:=by
 cases h with
 | name e=>exact e
theorem Rs.FF {kvs:List (Key×V)}{H H':Hp}{z:Str}{v:V}(h:Rs kvs H H' .fv z v):∃ms c,v = .ref c∧Tx.fv z=some ms∧H c=none∧H' c=some (.lst (ms.map V.int)):=by
 cases h with
 | fv e n k=>exact⟨_,_,rfl,e,n,k⟩
theorem Rs.nS {kvs:List (Key×V)}{H H':Hp}{N:Int}{v:V}(h:Rs kvs H H' .depth (Tx.tx N) v)(hN:0≤N∧N≤60):v = .int N:=by
 cases h
 rw [Az (rQ hN)]
theorem Rs.ky {kvs:List (Key×V)}{H H':Hp}{x:Int}{v:V}(h:Rs kvs H H' .number (Tx.tx x) v)(hx:x.natAbs<10^60):v = .int x:=by
 cases h
 rw [Az hx]
def pA (K:PySem.W.Frag):Addr→Sp→Prop:=λg sp=>(g=469∧sp=nB K)∨(g=476∧sp=mh K)∨(g=483∧sp=nC K)∨(g=490∧sp=me K)
def pB (K:PySem.W.Frag):Addr→Sp→Prop:=λg sp=>(g=497∧sp=rT K)∨(g=502∧sp=qv K)∨(g=509∧sp=qr K)∨(g=516∧sp=o8 K)∨(g=523∧sp=rS K)∨(g=528∧sp=qt K)∨(g=533∧sp=o7 K)∨(g=540∧sp=qu K)
inductive gf (x:Str)(a N m:Int):Nat→Str→List Kd→Addr→Addr→(V→V→V→V→List V)→List Str→Prop
 | solve:gf x a N m 0 "solve" [.name,.depth] 427 502 (λb _ N _=>[b,N]) [x,Tx.tx N]
 | count:gf x a N m 1 "count" [.name,.depth] 428 509 (λb _ N _=>[b,N]) [x,Tx.tx N]
 | single:gf x a N m 2 "single" [.name,.number] 429 516 (λb a _ _=>[b,a]) [x,Tx.tx a]
 | root:gf x a N m 3 "root" [.name,.number,.depth] 430 523 (λb a N _=>[b,a,N]) [x,Tx.tx a,Tx.tx N]
 | roots:gf x a N m 4 "roots" [.name,.depth] 431 528 (λb _ N _=>[b,N]) [x,Tx.tx N]
 | oM:gf x a N m 5 "border" [.name] 432 533 (λb _ _ _=>[b]) [x]
 | small:gf x a N m 6 "small" [.number,.depth,.number] 433 540 (λ_ a N m=>[a,N,m]) [Tx.tx a,Tx.tx N,Tx.tx m]
 | B2:gf x a N m 7 "show" [.name] 426 497 (λb _ _ _=>[b]) [x]
inductive pw (K:PySem.W.Frag):Str→List Kd→Addr→Addr→Sp→Prop
 | fv:pw K "poly" [.fv] 420 469 (nB K)
 | times:pw K "times" [.name,.name] 421 476 (mh K)
 | seen:pw K "seen" [.name,.number,.depth] 422 483 (nC K)
 | GL:pw K "slope" [.name] 423 490 (me K)
section
variable {x:Str}{a N m:Int}{w':Nat}{dw:Str}{ks:List Kd}{at0 g:Addr}{th:V→V→V→V→List V}{ws:List Str}{sp:Sp}
theorem gf.row (r:gf x a N m w' dw ks at0 g th ws)(B:Bi mg K w):(atK dA dw=some (.ref at0)∧ej K at0 (ks.map λk=>V.str k.txt))∧atK fq dw=none∧atK ir dw=some (.ref g)∧pB K g (spT w' th K):=by
 unfold pB
 cases r with
 | solve=>exact⟨⟨wD,B.Ao⟩,AH,AM,.inr (.inl ⟨rfl,rfl⟩)⟩
 | count=>exact⟨⟨wz,B.Ap⟩,AD,AJ,.inr (.inr (.inl ⟨rfl,rfl⟩))⟩
 | single=>exact⟨⟨vJ,B.Aq⟩,xT,xV,.inr (.inr (.inr (.inl ⟨rfl,rfl⟩)))⟩
 | root=>exact⟨⟨xY,B.As⟩,Br,Bv,.inr (.inr (.inr (.inr (.inl ⟨rfl,rfl⟩))))⟩
 | roots=>exact⟨⟨wA,B.Au⟩,AE,AK,.inr (.inr (.inr (.inr (.inr (.inl ⟨rfl,rfl⟩)))))⟩
 | oM=>exact⟨⟨vI,B.Av⟩,xS,xU,.inr (.inr (.inr (.inr (.inr (.inr (.inl ⟨rfl,rfl⟩))))))⟩
 | small=>exact⟨⟨wC,B.Aw⟩,AG,AL,.inr (.inr (.inr (.inr (.inr (.inr (.inr ⟨rfl,rfl⟩))))))⟩
 | B2=>exact⟨⟨x6,B.An⟩,Bt,Bw,.inl ⟨rfl,rfl⟩⟩
theorem pw.row (r:pw K dw ks at0 g sp)(B:Bi mg K w):(atK dA dw=some (.ref at0)∧ej K at0 ((Kd.new::ks).map λk=>V.str k.txt))∧atK fq dw=some (.ref g)∧pA K g sp:=by
 unfold pA
 cases r with
 | fv=>exact⟨⟨xX,B.Ai⟩,Bq,.inl ⟨rfl,rfl⟩⟩
 | times=>exact⟨⟨wF,B.Aj⟩,AI,.inr (.inl ⟨rfl,rfl⟩)⟩
 | seen=>exact⟨⟨xZ,B.Ak⟩,Bs,.inr (.inr (.inl ⟨rfl,rfl⟩))⟩
 | GL=>exact⟨⟨wB,B.Al⟩,AF,.inr (.inr (.inr ⟨rfl,rfl⟩))⟩
theorem gf.free (r:gf x a N m w' dw ks at0 g th ws):32∉dw.cps.toList:=by cases r<;>decide +kernel
theorem pw.free (r:pw K dw ks at0 g sp):32∉dw.cps.toList:=by cases r<;>decide +kernel
theorem gf.Ka (hx:Nm x)(r:gf x a N m w' dw ks at0 g th ws):∀z,z∈ws→32∉z.cps.toList:=by
 have h1:=vY hx
 intro z hz
 cases r<;>simp only [List.mem_cons,List.not_mem_nil,or_false] at hz<;>first | (rw [hz];exact h1) | (rcases hz with rfl | rfl<;>first | exact h1 | exact Tx.Cb _) | (rcases hz with rfl | rfl | rfl<;>first | exact h1 | exact Tx.Cb _)
end
theorem mK {y:Int}(h:-200≤y∧y≤200):y.natAbs<10^60:=Nat.lt_of_le_of_lt (show y.natAbs≤200 by omega) (by decide +kernel)
section
variable {kvs:List (Key×V)}{H H':Hp}{x:Str}{b:Addr}{a N m:Int}{w':Nat}{dw:Str}{ks:List Kd}{at0 g:Addr}{th:V→V→V→V→List V}{ws:List Str}{vs:List V}
theorem gf.wd (hx:Nm x)(hv:dB kvs (Sum.inr x)=some (.ref b))(ha:-200≤a∧a≤200)(hN:0≤N∧N≤60)(hm:-200≤m∧m≤200)(r:gf x a N m w' dw ks at0 g th ws):tJ kvs ks ws:=by
 have w1:Wd kvs .name x:=.name hx hv
 have w2:Wd kvs .number (Tx.tx a):=rX (mK ha)
 have w3:Wd kvs .depth (Tx.tx N):=AN hN
 have w4:Wd kvs .number (Tx.tx m):=rX (mK hm)
 cases r<;>first | exact .cons w1 .nil | exact .cons w1 (.cons w3 .nil) | exact .cons w1 (.cons w2 .nil) | exact .cons w1 (.cons w2 (.cons w3 .nil)) | exact .cons w2 (.cons w3 (.cons w4 .nil))
theorem gf.val (hv:dB kvs (Sum.inr x)=some (.ref b))(ha:-200≤a∧a≤200)(hN:0≤N∧N≤60)(hm:-200≤m∧m≤200)(r:gf x a N m w' dw ks at0 g th ws)(h:Rl kvs H H' ks ws vs):vs=th (.ref b) (.int a) (.int N) (.int m):=by
 have nm:∀{v},Rs kvs H H' .name x v→v = .ref b:=λz=>Option.some.inj (z.nh.symm.trans hv)
 cases r with
 | solve | count | roots=>
  obtain⟨v1,_,rfl,r1,h⟩:=h.inv
  obtain⟨v2,_,rfl,r2,h⟩:=h.inv
  rw [nm r1,r2.nS hN,h.pN]
 | single=>
  obtain⟨v1,_,rfl,r1,h⟩:=h.inv
  obtain⟨v2,_,rfl,r2,h⟩:=h.inv
  rw [nm r1,r2.ky (mK ha),h.pN]
 | root=>
  obtain⟨v1,_,rfl,r1,h⟩:=h.inv
  obtain⟨v2,_,rfl,r2,h⟩:=h.inv
  obtain⟨v3,_,rfl,r3,h⟩:=h.inv
  rw [nm r1,r2.ky (mK ha),r3.nS hN,h.pN]
 | oM | B2=>
  obtain⟨v1,_,rfl,r1,h⟩:=h.inv
  rw [nm r1,h.pN]
 | small=>
  obtain⟨v1,_,rfl,r1,h⟩:=h.inv
  obtain⟨v2,_,rfl,r2,h⟩:=h.inv
  obtain⟨v3,_,rfl,r3,h⟩:=h.inv
  rw [r1.ky (mK ha),r2.nS hN,r3.ky (mK hm),h.pN]
end
structure Ck (K:PySem.W.Frag)(H:Hp)(kvs:List (Key×V))(x:Str)(b:Addr)(p:Int)(f:List Int)(a N m:Int):Prop where
 nm:Nm x
 val:dB kvs (Sum.inr x)=some (.ref b)
 ask:iT K H p b f a N m
inductive j8 (K:PySem.W.Frag)(H:Hp)(kd:Addr)(p:Int)(kvs:List (Key×V))(Q:VK)(E:XK):Str→List Kd→Addr→List Str→Prop
 | told {x:Str} {b:Addr} {f:List Int} {a N m:Int} {w':Nat} {dw:Str} {ks:List Kd} {at0 g:Addr} {th:V→V→V→V→List V} {ws:List Str}:gf x a N m w' dw ks at0 g th ws→Ck K H kvs x b p f a N m→(∀(r:Str⊕Str) (H':Hp),eZ p f a N m w' r→aL H H'→Out K Q E r H')→j8 K H kd p kvs Q E dw ks at0 ws
 | made {z:Str} {r:List Int} {dw:Str} {ks:List Kd} {at0 g:Addr} {sp:Sp} {ws:List Str}:pw K dw ks at0 g sp→(∀y,y∈z::ws→32∉y.cps.toList)→tJ kvs (.new::ks) (z::ws)→r.length≤13→(∀x,x∈r→x.natAbs<10^60) →
  (∀(t:Addr) (vs:List V) (H1:Hp) (Q':VK),aL H H1→Rl kvs H H1 (.new::ks) (z::ws) vs→H1 t=some (.lst vs)→(∀l H2,aL H1 H2→H l=none→H2 l=some (.lst (r.map V.int))→Q' (.ref l) H2)→sp [.int p,.ref t] H1 Q' E) →
  (∀l H1,aL H H1→H l=none→H1 l=some (.lst (r.map V.int))→Q (.str "ok") (upd H1 kd (.dK (putK kvs (Sum.inr z) (.ref l)))))→j8 K H kd p kvs Q E dw (.new::ks) at0 (z::ws)
 | drop {x:Str} {v:V}:Nm x→dB kvs (Sum.inr x)=some v→(∀H1,aL H H1→Q (.str "ok") (upd H1 kd (.dK (sf kvs (Sum.inr x)))))→j8 K H kd p kvs Q E "drop" [.name] 424 [x]
section
variable {H:Hp}{kd:Addr}{p:Int}{kvs:List (Key×V)}{Q:VK}{E:XK}{dw:Str}{ks:List Kd}{a:Addr}{ws:List Str}
theorem j8.row (r:j8 K H kd p kvs Q E dw ks a ws)(B:Bi mg K w):atK dA dw=some (.ref a)∧ej K a (ks.map λk=>V.str k.txt):=by
 cases r with
 | told r=>exact (r.row B).1
 | made r=>exact (r.row B).1
 | drop=>exact⟨xW,B.Am⟩
theorem j8.short (r:j8 K H kd p kvs Q E dw ks a ws):ks.length≤4:=by
 cases r with
 | told r=>cases r<;>exact Nat.le_of_ble_eq_true rfl
 | made r=>cases r<;>exact Nat.le_of_ble_eq_true rfl
 | drop=>exact Nat.le_of_ble_eq_true rfl
theorem j8.free (r:j8 K H kd p kvs Q E dw ks a ws):∀w,w∈dw::ws→32∉w.cps.toList:=by
 intro w hw
 cases r with
 | told r s=>exact (List.mem_cons.mp hw).elim (λz=>z▸r.free) (r.Ka s.nm w)
 | made r h=>exact (List.mem_cons.mp hw).elim (λz=>z▸r.free) (h w)
 | drop hn=>
  simp only [List.mem_cons,List.not_mem_nil,or_false] at hw
  rcases hw with rfl|rfl
  ·decide +kernel
  ·exact vY hn
theorem j8.wd (r:j8 K H kd p kvs Q E dw ks a ws):tJ kvs ks ws:=by
 cases r with
 | told r s=>exact r.wd s.nm s.val s.ask.ra s.ask.dN s.ask.rm
 | made _ _ h=>exact h
 | drop hn hv=>exact .cons (.name hn hv) .nil
end
theorem Rl.old {kvs:List (Key×V)}{H0 H H':Hp}{ks:List Kd}{zs:List Str}{vs:List V}(h:Rl kvs H H' ks zs vs)(g:aL H0 H):Rl kvs H0 H' ks zs vs:=by
 induction h with
 | nil=>exact .nil
 | cons r _ ih=>exact .cons (r.same g (aL.refl _)) ih
def cJ (K:PySem.W.Frag):Sp:=λvs H Q E=>∃(d dx kd:Addr) (p:Int) (kvs:List (Key×V)) (dw:Str) (ks:List Kd) (a:Addr) (ws:List Str),vs=[.ref d,.str (Str.join (Str.ofString " ") (dw::ws))]∧fI K H d dx kd p kvs∧kvs.length<900∧(Str.join (Str.ofString " ") (dw::ws)).length≤2000∧j8 K H kd p kvs Q E dw ks a ws
theorem Jf (B:Bi mg K w)(t_TOLD:mr P w K mg base (eh P w) 69 (pB K))(t_MADE:mr P w K mg base (eh P w) 3 (pA K))(Cz:Def P w K mg base "words_of" 1 ["row"] (dX K))(Cy:Met P w K mg base cY (cq K "Desk") "thing_of" 5 ["self","wanted","word"] (dI K))(IE:Met P w K mg base cY (cq K "Desk") "keep" 3 ["self","name","polynomial"] (fT K))(F:cD K "say" "Desk.say" sJ f fd):bc P w K mg base (eh P w) 70 f fd ["self","row"] (cJ K):=by
 refine F.jM Gk (λvs H Q E h=>?_) (λcdv A outer s H vs Q E hr h=>?_)
 ·obtain⟨d,dx,kd,p,kvs,dw,ks,a,ws,rfl,_⟩:=h
  rfl
 obtain⟨d,dx,kd,p,kvs,dw,ks,at0,ws,rfl,hd,hk,hl,r⟩:=h
 have S:=Gk
 refine⟨_,((af (aB (i:=2) S.nd rfl (Or.inl rfl) (aD Cz hr rfl (aa (pv 1) ae)))
  (af (aB (i:=3) S.nd rfl (Or.inl rfl) (ba bK (pv 2) ag (λ_ _=>rfl)))
  (af (zK [0] ["self"] rfl S.nd (k:=4) rfl rfl rfl rfl ⟨rfl,trivial⟩ ⟨rfl,rfl,rfl,rfl,trivial⟩ rfl rfl (by decide) (by decide) rfl rfl rfl (by decide) (HB rfl B.JO (sE B.lS rfl B.lR (pv 3) (λ_ _=>rfl)) (nt wk (pv 2) (oZ ag) oY)) (λ_ _ _ _=>dG) (λ_ _ _ _=>(nq vo B.d9 Cy hr (pv 2) (aa (pv 0) (aa (pv 1) ae)))))
  (af (bN (vt (Eh B.sA rfl B.si (pv 3))) (ak (aC (nq vo B.d9 IE hr (pv 0) (aa (ba bK (pv 2) ag (λ_ _=>rfl)) (aa (zC t_MADE (sE B.sA rfl B.si (pv 3) (λ_ _=>rfl)) hr ig (aa (oW (pv 0) rfl) (aa (pv 4) ae))) ae))))) aR)
  (af (bN (vt (Eh B.sC rfl B.sj (pv 3))) (ak (aC (zC t_TOLD (sE B.sC rfl B.sj (pv 3) (λ_ _=>rfl)) hr ig (aa (oW (pv 0) rfl) (aa (pv 4) ae))))) aR)
  (af (bN (aF cP (pv 3) bH (aQ _)) (af (mJ (FE (oW (pv 0) rfl) (ba bK (pv 2) ag (λ_ _=>rfl)) ⟨rfl,rfl,rfl,rfl⟩))
  (ak (aC bH))) aR)
  (ak ff)))))))),?_⟩
 obtain⟨hat,htu⟩:=r.row B
 have hfr:=r.free
 have hwd:=r.wd
 have hlen:=hwd.len
 have hk5:=r.short
 have hsp:Txt.split (Str.join (Str.ofString " ") (dw::ws)) (Str.ofString " ")=dw::ws:=by
  rw [Tx.FR]
  exact Tx.zW (by simp) hfr
 walk_at "p";(try simp only [dX,dI,fT]);try walk_at "dr2"
 refine⟨hl,_,_,hsp,_,hat,_,htu,by rw [List.length_map];exact hlen,λl1 H1 g1 n1 k1=>?_⟩
 walk_at "p";(try simp only [dX,dI,fT]);try walk_at "dr2"
 refine⟨_,az.of k1,_,aM (j:=0) rfl,?_⟩
 walk_at "p";(try simp only [dX,dI,fT]);try walk_at "dr2"
 refine⟨_,hat,_,az.of k1,?_⟩
 intro l2 n_l2;generalize e0:upd _ l2 _=H2;obtain⟨g2,k2⟩:=cL e0 n_l2;clear e0
 have k2:H2 l2=some (.lst (ws.map V.str)):=by
  rw [k2,show V.str dw::ws.map V.str=(dw::ws).map V.str from rfl,yA V.str (dw::ws) (by decide)]
  rfl
 refine⟨⟨_,htu.sq _⟩,⟨_,az.of k2⟩,?_⟩
 have hd2:=(hd.same g1).same g2
 obtain⟨Pc,hPc⟩:∃Pc:Nat→List V→Hp→Prop,∀i ys H3,Pc i ys H3↔(aL H2 H3∧Rl kvs H2 H3 (ks.take i) (ws.take i) ys):=⟨_,λ_ _ _=>Iff.rfl⟩
 refine Ha (ks.map λk=>V.str k.txt) (ws.map V.str) Pc (by rw [List.length_map];exact Nat.le_trans hk5 (by decide)) (by rw [List.length_map,List.length_map];exact hlen) ((hPc _ _ _).mpr ⟨aL.refl _,.nil⟩) (λi ys H3 pc=>⟨htu.sq _,az.of (((hPc _ _ _).mp pc).1 _ _ k2)⟩) (λi x y ys H3 H4 hx' hy' pc g4=>?_) (λys H3 pc l n_l=>?_)
 ·obtain⟨g3,hrl⟩:=(hPc _ _ _).mp pc
  have hd4:=(hd2.same g3).same g4
  rw [List.getElem?_map] at hx' hy'
  cases ek:ks[i]? with
  | none=>rw [ek] at hx';cases hx'
  | some k=>
   cases ew:ws[i]? with
   | none=>rw [ew] at hy';cases hy'
   | some z=>
    rw [ek] at hx'
    rw [ew] at hy'
    cases hx'
    cases hy'
    walk_at "q";(try simp only [dX,dI,fT]);try walk_at "dr1"
    refine⟨_,_,hd4.ins,jZ (by decide +kernel) (by decide +kernel),dx,kd,p,kvs,k,rfl,hd4,hwd.at ek ew,λv H' g5 rs=>(hPc _ _ _).mpr ⟨g3.trans (g4.trans g5),?_⟩⟩
    rw [i9 ek,i9 ew]
    exact (hrl.same (g4.trans g5)).snoc (rs.same (g3.trans g4) (aL.refl _))
 obtain⟨g3,hrl⟩:=(hPc _ _ _).mp pc
 rw [List.length_map,List.take_length,hlen,List.take_length] at hrl
 have g5:=eC n_l (o:=HO.lst ys)
 have k5:upd H3 l (HO.lst ys) l=some (HO.lst ys):=aS
 generalize upd H3 l (HO.lst ys)=H5 at g5 k5 ⊢
 have hd5:=((hd2.same g3).same g5)
 have hrl:=hrl.same g5
 have G2:=g1.trans g2
 have G5:=G2.trans (g3.trans g5)
 have k15:=g5 _ _ (g3 _ _ (g2 _ _ k1))
 clear pc hPc
 cases r with
 | told r s q=>
  obtain⟨_,hm,ht,tab⟩:=r.row B
  have ev:=r.val s.val s.ask.ra s.ask.dN s.ask.rm hrl
  rw [ev] at k5
  walk_at "p";(try simp only [dX,dI,fT]);try walk_at "dr2"
  rw [hm,if_neg (by intro z;cases z)]
  walk_at "p";(try simp only [dX,dI,fT]);try walk_at "dr2"
  rw [ht,if_pos (by rfl)]
  exact⟨_,rfl,_,tab,_,_,_,hd5.ins,B.d9,B.ng,_,vh,p,l,_,_,_,_,_,rfl,az.of k5,s.ask.same G5,λr H' h g=>q r H' h (G5.trans g)⟩
 | made r hf hw lr br qs q=>
  obtain⟨_,hm,tab⟩:=r.row B
  walk_at "p";(try simp only [dX,dI,fT]);try walk_at "dr2"
  rw [hm,if_pos (by rfl)]
  refine⟨_,_,hd5.ins,jZ (by decide +kernel) (by decide +kernel),_,az.of k15,_,aM (j:=1) rfl,_,rfl,_,tab,_,_,_,hd5.ins,B.d9,B.ng,_,vh,?_⟩
  refine qs l _ H5 _ G5 (hrl.old G2) k5 λl' H6 g6 n6 k6=>?_
  have hd6:=hd5.same g6
  exact⟨dx,kd,_,_,kvs,_,rfl,rfl,hd6.ins,rC,hd6.kept,by (try clear hat hk5 hl hlen hm hsp k1 k15 k2 k5 k6 lr n1 n6 n_l n_l2);omega,_,az.of k6,by (try clear hat hk hk5 hl hlen hm hsp k1 k15 k2 k5 k6 n1 n6 n_l n_l2);omega,br,λH7 g7=>q _ H7 (G5.trans (g6.trans g7)) n6 (g7 _ _ k6)⟩
 | drop hn hv q=>
  walk_at "p";(try simp only [dX,dI,fT]);try walk_at "dr2"
  rw [Bp,if_neg (by intro z;cases z)]
  walk_at "p";(try simp only [dX,dI,fT]);try walk_at "dr2"
  rw [Bu,if_neg (by intro z;cases z)]
  walk_at "q";(try simp only [dX,dI,fT]);try walk_at "dr1"
  exact⟨_,_,_,hd5.ins,B.d9,B.kX,_,rC,kd,rfl,.inl ⟨_,.inl hd5.kept⟩,_,az.of k15,_,aM (j:=1) rfl,_,hd5.kept,Sum.inr _,rfl,⟨_,hv⟩,q H5 G5⟩
def gp (K:PySem.W.Frag):Sp:=λvs H Q _=>∃(a b:Addr) (f g:List Int) (m n:Nat),vs=[.ref a,.ref b]∧az K H a (f.map V.int)∧az K H b (g.map V.int)∧(0<f.length∧f.length≤60∧0<g.length∧g.length≤60)∧Dr.bX f m∧Dr.bX g n∧(m≤1000000∧n≤1000000) ∧
 ∀(c:Addr) (r:List Int) (H':Hp),Dr.yi f g r→Dr.bX r (m+n+12)→H c=none→aL H H'→H' c=some (.lst (r.map V.int))→Q (.ref c) H'
theorem xD (B:Bi mg K w)(F:cD K "_law_times" "_law_times" gL f fd):bc P w K mg base cY 1 f fd ["f","g"] (gp K):=by
 refine F.ok qH (λvs H Q E h=>?_) (λcdv A outer s H vs Q E hr h=>?_)
 ·obtain⟨a,b,f,g,m,n,rfl,_⟩:=h
  rfl
 obtain⟨a,b,f,g,m,n,rfl,hS,hS',hl,hf,hg,hmn,q⟩:=h
 have S:=qH
 refine⟨_,((af (aB (i:=2) S.nd rfl (Or.inl rfl) (av Ee (dS (aa ag ae)) (av ft (av cS (aZ cv rfl B.eI PySem.boot_len (aa (pv 0) ae)) (aZ cv rfl B.eI PySem.boot_len (aa (pv 1) ae))) ag)))
  (af (fK PassesOwn.never rfl (h8 rfl B.fO (aa (aZ cv rfl B.eI PySem.boot_len (aa (pv 0) ae)) ae)) (cI (i:=3) S.nd rfl (Or.inl rfl)) (ak (fK PassesOwn.never rfl (h8 rfl B.fO (aa (aZ cv rfl B.eI PySem.boot_len (aa (pv 1) ae)) ae)) (cI (i:=4) S.nd rfl (Or.inl rfl)) (ak (zI (av cS (ba bK (pv 2) (av cS (pv 3) (pv 4)) (λ_ _=>rfl)) (av cA (ba bK (pv 0) (pv 3) (λ_ _=>rfl)) (ba bK (pv 1) (pv 4) (λ_ _=>rfl)))) (Jq (pv 2) (av cS (pv 3) (pv 4)) set_list))))))
  (ak (aC (pv 2)))))),?_⟩
 walk_at "q"
 refine⟨by decide,?_⟩
 intro l0 n_l0;generalize e0:upd _ l0 _=H1;obtain⟨g1,k1⟩:=cL e0 n_l0;clear e0
 refine⟨_,.inl (g1.seq hS),_,.inl (g1.seq hS'),?_⟩
 simp only [List.length_map]
 refine⟨_,k1,by (try clear hmn k1 n_l0);omega,by (try clear hmn k1 n_l0);omega,by simp only [List.length_cons,List.length_nil];unfold sizeLine;((try clear hmn k1 n_l0);omega),?_⟩
 intro l n_l;generalize e0:upd _ l _=H2;obtain⟨g2,k2⟩:=cL e0 n_l;clear e0
 rw [zQ] at k2
 have g12:=g1.trans g2
 have nl:H l=none:=g1.free n_l
 refine⟨_,.inl (g12.seq hS),by simp only [List.length_map];((try clear hmn k1 k2 n_l n_l0 nl);omega),by simp only [List.length_map];((try clear hmn k1 k2 n_l n_l0 nl);omega),?_⟩
 obtain⟨M,hM⟩:∃M:Nat,M=2^(m+n):=⟨_,rfl⟩
 obtain⟨Pv,hPv⟩:∃Pv:Nat→St→Hp→Prop,∀i σ H3,Pv i σ H3↔(aL H H3∧∃(r:List Int) (t3 t4:Option V),r.length+1=f.length+g.length∧(∀c,c∈r→c.natAbs≤i*g.length*M)∧(∀x,Dr.aA r x=Dr.aA (f.take i) x*Dr.aA g x)∧H3 l=some (.lst (r.map V.int))∧σ=[some (.ref a),some (.ref b),some (.ref l),t3,t4]):=⟨_,λ_ _ _=>Iff.rfl⟩
 (first | refine hX _ _ ?_ | skip);refine forR Pv ((hPv _ _ _).mpr ⟨g12,_,none,none,by rw [List.length_replicate];((try clear hM hmn k1 k2 n_l n_l0 nl);omega),λc hc=>by rw [(List.mem_replicate.mp hc).2];simp,λx=>by rw [Dr.nW];simp [Dr.aA],k2,rfl⟩) ?_ ?_
 ·intro i σ H3 hi z
  obtain⟨g3,r,t3,t4,hrl,hrb,hre,k3,rfl⟩:=(hPv _ _ _).mp z
  simp only [List.length_map,Int.toNat_natCast] at hi
  obtain⟨c,hc⟩:∃c,f[i]?=some c:=⟨_,List.getElem?_eq_getElem hi⟩
  have ac:iX (f.map V.int) (0+(i:Int))=some (.int c):=by
   rw [Int.zero_add]
   exact aM (by rw [List.getElem?_map,hc];rfl)
  walk_at "q"
  refine⟨_,.inl (g3.seq hS'),by simp only [List.length_map];((try clear ac hM hc hi hmn hrl k1 k2 k3 n_l n_l0 nl);omega),by simp only [List.length_map];((try clear ac hM hc hi hmn hrl k1 k2 k3 n_l n_l0 nl);omega),?_⟩
  obtain⟨Pw,hPw⟩:∃Pw:Nat→St→Hp→Prop,∀j σ H5,Pw j σ H5↔(aL H H5∧∃(r:List Int) (t4:Option V),r.length+1=f.length+g.length∧(∀c,c∈r→c.natAbs≤(i*g.length+j)*M)∧(∀x,Dr.aA r x=Dr.aA (f.take i) x*Dr.aA g x+c*x^i*Dr.aA (g.take j) x)∧H5 l=some (.lst (r.map V.int))∧σ=[some (.ref a),some (.ref b),some (.ref l),some (.int (0+(i:Int))),t4]):=⟨_,λ_ _ _=>Iff.rfl⟩
  (first | refine hX _ _ ?_ | skip);refine forR Pw ((hPw _ _ _).mpr ⟨g3,r,t4,hrl,hrb,λx=>by rw [hre];simp [Dr.aA],k3,rfl⟩) ?_ ?_
  ·intro j σ H5 hj z
   obtain⟨g5,r,t4,hrl,hrb,hre,k5,rfl⟩:=(hPw _ _ _).mp z
   simp only [List.length_map,Int.toNat_natCast] at hj
   obtain⟨d,hd⟩:∃d,g[j]?=some d:=⟨_,List.getElem?_eq_getElem hj⟩
   have ad:iX (g.map V.int) (0+(j:Int))=some (.int d):=by
    rw [Int.zero_add]
    exact aM (by rw [List.getElem?_map,hd];rfl)
   obtain⟨v,e1,e2,e3,_⟩:=vU (fs:=r) (k:=0+(i:Int)+(0+(j:Int))) (by (try clear ac ad hM hc hd hi hj hl hmn hrl k1 k2 k3 k5 n_l n_l0 nl);omega) (by (try clear ac ad hM hc hd hl hmn k1 k2 k3 k5 n_l n_l0 nl);omega)
   have hcd:(c*d).natAbs≤M:=by
    rw [hM]
    exact Nat.le_of_lt ((hf c (List.mem_of_getElem? hc)).mul (hg d (List.mem_of_getElem? hd)))
   walk_at "q"
   refine⟨_,az.of k5,_,e2,_,g5.seq hS,_,ac,_,g5.seq hS',_,ad,c,rfl,d,rfl,mx (hf c (List.mem_of_getElem? hc)) (hg d (List.mem_of_getElem? hd)) (by (try clear ac ad e1 e2 e3 hM hc hcd hd hi hj hl hrl k1 k2 k3 k5 n_l n_l0 nl);omega),v,rfl,_,k5,_,e3,?_⟩
   rw [set_int]
   have eij:(0+(i:Int)+(0+(j:Int))).toNat=i+j:=by ((try clear ac ad e1 e2 e3 hM hc hcd hd hi hj hl hmn hrl k1 k2 k3 k5 n_l n_l0 nl);omega)
   rw [eij] at e1 ⊢
   refine (hPw _ _ _).mpr ⟨g5.up nl _,_,_,by rw [List.length_set];exact hrl,λe he=>?_,λx=>?_,aS,rfl⟩
   ·rcases mem_set he with w|w
    ·exact Nat.le_trans (hrb e w) (Nat.mul_le_mul_right _ (Nat.le_succ _))
    ·rw [w]
     exact steps (hrb v (List.mem_of_getElem? e1)) hcd
   ·rw [Dr.sG x (c*d) r (i+j) v e1,hre,Dr.jR hd,Dr.pow_add']
    generalize x^i=X
    generalize x^j=Y
    grind
  ·intro σ H5 z
   obtain⟨g5,r,t4,hrl,hrb,hre,k5,rfl⟩:=(hPw _ _ _).mp z
   simp only [List.length_map,Int.toNat_natCast] at hrb hre
   refine (hPv _ _ _).mpr ⟨g5,r,_,_,hrl,λc hc=>?_,λx=>?_,k5,rfl⟩
   ·rw [Nat.succ_mul]
    exact hrb c hc
   ·rw [hre,List.take_length,Dr.jR hc]
    grind
 ·intro σ H3 z
  obtain⟨g3,r,t3,t4,hrl,hrb,hre,k3,rfl⟩:=(hPv _ _ _).mp z
  simp only [List.length_map,Int.toNat_natCast] at hrb hre
  walk_at "q"
  rw [List.take_length] at hre
  refine q l r H3 ⟨hrl,hre⟩ (λc hc=>?_) nl g3 k3
  have h1:=hrb c hc
  have h2:f.length*g.length*M≤3600*M:=Nat.mul_le_mul_right _ (Nat.mul_le_mul (show f.length≤60 by ((try clear h1 hM hmn k1 k2 k3 n_l n_l0 nl);omega)) (show g.length≤60 by ((try clear h1 hM hmn hrl k1 k2 k3 n_l n_l0 nl);omega)))
  show c.natAbs<2^(m+n+12)
  rw [Nat.pow_add,←hM]
  have:(2:Nat)^12=4096:=by decide
  have:0<M:=by rw [hM];exact Nat.pow_pos (by decide)
  ((try clear hl hmn hrl k1 k2 k3 n_l n_l0 nl);omega)
noncomputable def dQ (ns:List Int)(k:Int):Int:=if k<ns.length then ns.getD k.toNat 0 else 3*k*k+17*k+4
def aU (K:PySem.W.Frag):Sp:=λvs H Q _=>∃(a:Addr) (ns:List Int) (k:Int),vs=[.ref a,.int k]∧az K H a (ns.map V.int)∧ns.length≤63∧(0≤k∧k<1000)∧Q (.int (dQ ns k)) H
theorem zi (B:Bi mg K w)(F:cD K "_law_cell" "_law_cell" iu f fd):bc P w K mg base cY 1 f fd ["script","k"] (aU K):=by
 refine F.ok sX (λvs H Q E h=>?_) (λcdv A outer s H vs Q E hr h=>?_)
 ·obtain⟨a,ns,k,rfl,_⟩:=h
  rfl
 obtain⟨a,ns,k,rfl,hS,hl,hk,q⟩:=h
 have S:=sX
 refine⟨_,((af (bN (aF kz (pv 1) (aZ cv rfl B.eI PySem.boot_len (aa (pv 0) ae)) (aQ _)) (ak (aC (ba bK (pv 0) (pv 1) (λ_ _=>rfl)))) aR)
  (ak (aC (av cS (av cS (av cA (av cA ag (pv 1)) (pv 1)) (av cA ag (pv 1))) ag))))),?_⟩
 refine⟨_,rfl,_,rfl,a,_,rfl,.inl hS,_,_,rfl,rfl,_,rfl,?_⟩
 have hm:(((ns.map V.int).length:Nat):Int)=(ns.length:Int):=by rw [List.length_map]
 refine cG (λc=>?_) (λc=>?_)
 ·have c':k<(ns.length:Int):=by rw [←hm];exact of_decide_eq_true c
  have hk':k.toNat<ns.length:=by omega
  have ek:k=((k.toNat:Nat):Int):=by omega
  have g:iX (ns.map V.int) ((k.toNat:Nat):Int)=some (.int (ns.getD k.toNat 0)):=aM (by rw [List.getElem?_map,List.getElem?_eq_getElem hk',List.getD_eq_getElem?_getD,List.getElem?_eq_getElem hk'];rfl)
  rw [←ek] at g
  refine⟨_,rfl,_,rfl,a,_,_,_,rfl,rfl,hS,g,?_⟩
  unfold dQ at q
  rw [if_pos c'] at q
  exact q
 ·have c':¬k<(ns.length:Int):=λz=>c (decide_eq_true (by rw [hm];exact z))
  unfold dQ at q
  rw [if_neg c'] at q
  have b1:IntMulOk 3 k:=IntMulOk.of_left (by decide)
  have b2:IntMulOk (3*k) k:=IntMulOk.of_right (intBits_le_64 (by omega) (by omega))
  have b3:IntMulOk 17 k:=IntMulOk.of_left (by decide)
  exact⟨_,rfl,_,_,rfl,rfl,b1,_,rfl,_,_,rfl,rfl,b2,_,rfl,_,_,rfl,rfl,b3,_,_,rfl,rfl,_,_,rfl,rfl,q⟩
theorem DB {ns:List Int}(h:∀n,n∈ns→Builtin.Int.intBits n≤2^20){k:Int}(hk:0≤k∧k<1000):Builtin.Int.intBits (dQ ns k)≤2^20:=by
  unfold dQ
  split
  · have h1:ns.getD k.toNat 0∈ns:=by
      rw [List.getD_eq_getElem?_getD,List.getElem?_eq_getElem (by omega)]
      exact List.getElem_mem _
    exact h _ h1
  · have h1:0≤k*k:=Int.mul_nonneg hk.1 hk.1
    have h2:k*k≤1000*1000:=Int.mul_le_mul (by omega) (by omega) hk.1 (by omega)
    have h3:Builtin.Int.intBits (3*k*k+17*k+4)≤64:=intBits_le_64 (by rw [Int.mul_assoc];omega) (by rw [Int.mul_assoc];omega)
    omega
theorem r6 {ns:List Int}(h:∀n,n∈ns→Builtin.Int.intBits n≤2^20){k:Int}(hk:0≤k∧k<1000):Sh (dQ ns k):=Nat.le_trans (DB h hk) (by decide)
def bo (_:PySem.W.Frag):Sp:=λvs H Q _=>∃(c:Int),vs=[.int c]∧∀(p:Int) (H':Hp),p∈Dr.cm→aL H H'→Q (.int p) H'
theorem uU:∃(s1 s2 s3:Stmt) (e1:List Expr) (p1 p2 p3 p4 p5 p6 p7 p8 p9 p10 p11 p12 p13 p14 p15 p16 p17 p18 p19 p20 p21 p22 p23 p24 p25:Pos),aE fV=[s1,s2,s3] ∧
    s1 = .Assign [.Name "some" p1] (.List e1 p2) p3∧nN e1=some Dr.cm ∧
    s2 = .If (.Compare (.BinOp (.Name "cell" p4) .Mod (.Constant (.int 2) 0 p5) p6) [.Eq] [.Constant (.int 0) 0 p7] p8) [.Return (some (.Subscript (.Name "some" p9) (.BinOp (.BinOp (.Name "cell" p10) .FloorDiv (.Constant (.int 2) 0 p11) p12) .Mod (.Constant (.int 4) 0 p13) p14) p15)) p16] [] p17 ∧
    s3 = .Return (some (.Subscript (.Name "some" p18) (.BinOp (.BinOp (.Name "cell" p19) .FloorDiv (.Constant (.int 2) 0 p20) p21) .Mod (.Constant (.int 25) 0 p22) p23) p24)) p25:=
  ⟨_,_,_,_,_,_,_,_,_,_,_,_,_,_,_,_,_,_,_,_,_,_,_,_,_,_,_,_,_,rfl,rfl,rfl,rfl,rfl⟩
theorem xC (B:Bi mg K w)(F:cD K "_law_prime" "_law_prime" fV f fd):bc P w K mg base cY 1 f fd ["cell"] (bo K):=by
 refine F.ok qG (λvs H Q E h=>?_) (λcdv A outer s H vs Q E hr h=>?_)
 ·obtain⟨c,rfl,_⟩:=h
  rfl
 obtain⟨c,rfl,q⟩:=h
 have S:=qG
 obtain⟨s1,s2,s3,e1,p1,p2,p3,p4,p5,p6,p7,p8,p9,p10,p11,p12,p13,p14,p15,p16,p17,p18,p19,p20,p21,p22,p23,p24,p25,hb,h1,c1,h2,h3⟩:=uU
 rw [hb]
 refine⟨_,(af (CT (i:=1) h1 c1 S.nd rfl (Or.inl rfl) (Or.inr rfl))
  (af (Gv h2 (bN (aF cP (av cp (pv 0) ag) ag (aQ _)) (ak (aC (ba bK (pv 1) (av cp (av eD (pv 0) ag) ag) (λ_ _=>rfl)))) aR))
  (ak (Gv h3 (aC (ba bK (pv 1) (av cp (av eD (pv 0) ag) ag) (λ_ _=>rfl))))))),?_⟩
 refine⟨(by show 25≤sizeLine;decide),λl hl=>?_⟩
 refine⟨_,rfl,_,_,rfl,rfl,(show (0:Int)<2 by decide),rfl,_,rfl,?_⟩
 refine cG (λ_=>?_) (λ_=>?_)
 ·have m:=dO (c/2) (show (0:Int)<4 by decide)
  refine⟨_,rfl,_,rfl,_,_,rfl,rfl,⟨by decide,by decide⟩,_,_,rfl,rfl,(show (0:Int)<4 by decide),l,_,_,_,rfl,rfl,az.of aS,ub (ns:=Dr.cm) m.1 (by have:=m.2;show _<(25:Int);omega),?_⟩
  exact q _ _ (getD_in (ns:=Dr.cm) m.1 (by have:=m.2;show _<(25:Int);omega)) (ly hl _)
 ·have m:=dO (c/2) (show (0:Int)<25 by decide)
  refine⟨_,rfl,_,rfl,_,_,rfl,rfl,⟨by decide,by decide⟩,_,_,rfl,rfl,(show (0:Int)<25 by decide),l,_,_,_,rfl,rfl,az.of aS,ub (ns:=Dr.cm) m.1 m.2,?_⟩
  exact q _ _ (getD_in (ns:=Dr.cm) m.1 m.2) (ly hl _)
def hG (_:PySem.W.Frag):Sp:=λvs H Q _=>∃(p c o:Int),vs=[.int p,.int c,.int o]∧p∈Dr.cm∧∀(l:Addr) (f:List Int) (H':Hp),(2≤f.length∧f.length≤3)→Dr.bX f 31→H l=none→aL H H'→H' l=some (.lst (f.map V.int))→Q (.ref l) H'
theorem iY {x y:Int}(h:0<y∧y<1000000):pe x y:=⟨h.1,by
 have h1:y.natAbs<1000000:=by omega
 have h2:y.natAbs.log2<20:=(Nat.log2_lt (by omega)).mpr (Nat.lt_trans h1 (by decide))
 omega⟩
theorem zj (B:Bi mg K w)(F:cD K "_law_part" "_law_part" iw f fd):bc P w K mg base cY 1 f fd ["p","cell","other"] (hG K):=by
 refine F.ok sY (λvs H Q E h=>?_) (λcdv A outer s H vs Q E hr h=>?_)
 ·obtain⟨p,c,o,rfl,_⟩:=h
  rfl
 obtain⟨p,c,o,rfl,hpp,q⟩:=h
 have S:=sY
 have p2:=Dr.cy hpp
 have m19:=dO (c/4) (show (0:Int)<19 by decide)
 have m5:=dO o (show (0:Int)<5 by decide)
 have m7:=dO o (show (0:Int)<7 by decide)
 have m9:=dO (c/4) (show (0:Int)<9 by decide)
 have c5:=dO (c/4) (show (0:Int)<5 by decide)
 have o5:=dO (o/2) (show (0:Int)<5 by decide)
 refine⟨_,((af (aB (i:=3) S.nd rfl (Or.inl rfl) (av ft (av cp (av eD (pv 1) ag) ag) ag))
  (af (lh (bN (aF cP (av cp (pv 1) ag) ag (aQ _)) (ak (fK PassesOwn.never rfl (h8 rfl B.fO (aa (av cp (pv 2) ag) ae)) (cI (i:=4) S.nd rfl (Or.inl rfl)) (ak (aB (i:=3) S.nd rfl (Or.inl rfl) (av cA (pv 3) (pv 0)))))) aR))
  (af (bN (aF cP (av cp (pv 1) ag) ag (aQ _)) (ak (aC (dS (aa (av ft (av cA (pv 0) (av cp (pv 2) ag)) ag) (aa (av ft (av cp (av eD (pv 1) ag) ag) ag) ae))))) aR)
  (af (bN (PW.pt (vv (aF cP (av cp (pv 1) ag) ag (aQ _)) (wb (aF cP (av cp (pv 2) ag) ag (aQ _))))) (ak (aC (dS (aa (av cS ag (av cp (av eD (pv 1) ag) ag)) (aa (av ft (av cp (av eD (pv 2) ag) ag) ag) (aa ag ae)))))) aR)
  (ak (aC (dS (aa (mB kG (pv 3)) (aa ag ae)))))))))),?_⟩
 walk_at "p"
 refine⟨iY ⟨by decide,by decide⟩,?_⟩
 have hr1:-9≤c/4%19-9∧c/4%19-9≤9:=by ((try clear c5 m5 m7 m9 o5 p2);omega)
 generalize c/4%19-9=r1 at hr1 ⊢
 (first | refine hX _ _ ?_ | skip);refine cB ?_
 obtain⟨R,hR⟩:∃R:St→Hp→Prop,∀σ' H2,R σ' H2↔(H2=H∧∃(r:Int) (t4:Option V),Dr.Sm r 31∧σ'=[some (.int p),some (.int c),some (.int o),some (.int r),t4]):=⟨_,λ_ _=>Iff.rfl⟩
 (first | refine hX _ _ ?_ | skip);refine pP R ?_ ?_
 ·walk_at "p"
  refine cG (λ_=>?_) (λ_=>(hR _ _).mpr ⟨rfl,_,_,fM 9 (by (try clear c5 m19 m5 m7 m9 o5 p2);omega) (by decide),rfl⟩)
  walk_at "p"
  refine⟨by (try clear c5 hr1 m19 m7 m9 o5 p2);omega,by (try clear c5 hr1 m19 m7 m9 o5 p2);omega,?_⟩
  obtain⟨Pv,hPv⟩:∃Pv:Nat→St→Hp→Prop,∀i σ H2,Pv i σ H2↔(H2=H∧∃(x:Int) (t4:Option V),x=r1*p^i∧σ=[some (.int p),some (.int c),some (.int o),some (.int x),t4]):=⟨_,λ_ _ _=>Iff.rfl⟩
  (first | refine hX _ _ ?_ | skip);refine forR Pv ((hPv _ _ _).mpr ⟨rfl,r1,none,by simp,rfl⟩) ?_ ?_
  ·intro i σ H2 hi z
   obtain⟨rfl,x,t4,ex,rfl⟩:=(hPv _ _ _).mp z
   walk_at "q"
   exact⟨IntMulOk.of_right (intBits_le_64 (by (try clear c5 ex hi hr1 m19 m5 m7 m9 o5);omega) (by (try clear c5 ex hi hr1 m19 m5 m7 m9 o5);omega)),(hPv _ _ _).mpr ⟨rfl,x*p,_,by rw [ex,Int.pow_succ,Int.mul_assoc],rfl⟩⟩
  ·intro σ H2 z
   obtain⟨e2,x,t4,ex,rfl⟩:=(hPv _ _ _).mp z
   have bp:∀q,q∈Dr.cm→∀k:Fin 5,0<q^(k:Nat)∧q^(k:Nat)≤88529281:=by decide +kernel
   have b8:=bp p hpp ⟨(o%5).toNat,by (try clear c5 e2 ex hr1 m19 m7 m9 o5 p2);omega⟩
   dsimp only at b8
   generalize p^(o%5).toNat=P8 at b8 ex
   have hx:x.natAbs≤9*88529281:=by
    rw [ex,Int.natAbs_mul]
    exact Nat.mul_le_mul (by (try clear b8 c5 e2 ex m19 m5 m7 m9 o5 p2);omega) (by (try clear c5 e2 ex hr1 m19 m5 m7 m9 o5 p2);omega)
   walk_at "q"
   exact (hR _ _).mpr ⟨e2,_,_,Nat.lt_of_le_of_lt hx (by decide),rfl⟩
 intro σ' H2 z
 refine BC λX hX=>?_;obtain⟨rfl,r,t4,br,rfl⟩:=(hR _ _).mp z;refine hX ?_;clear hX X
 clear hR z
 walk_at "q"
 refine cG (λ_=>⟨IntMulOk.of_left (intBits_le_64 (by (try clear c5 hr1 m19 m5 m7 m9 o5);omega) (by (try clear c5 hr1 m19 m5 m7 m9 o5);omega)),iY ⟨by decide,by decide⟩,by decide,λl nl=>?_⟩) (λ_=>cG (λ_=>cG (λ_=>⟨iY ⟨by decide,by decide⟩,iY ⟨by decide,by decide⟩,by decide,λl nl=>?_⟩) (λ_=>⟨by decide,λl nl=>?_⟩)) (λ_=>⟨by decide,λl nl=>?_⟩))
 ·have h1:0≤p*(o%7)∧p*(o%7)≤97*6:=⟨Int.mul_nonneg (by (try clear c5 hr1 m19 m5 m7 m9 nl o5);omega) m7.1,Int.mul_le_mul (by (try clear c5 hr1 m19 m5 m7 m9 nl o5);omega) (by (try clear c5 hr1 m19 m5 m9 nl o5 p2);omega) m7.1 (by decide)⟩
  generalize p*(o%7)=y at h1 ⊢
  refine q l [y-3,c/4%9-4] _ (by simp) (λx hx=>?_) nl (eC nl) aS
  simp only [List.mem_cons,List.not_mem_nil,or_false] at hx
  rcases hx with e|e<;>rw [e]<;>exact fM 1000 (by (try clear c5 hr1 m19 m5 m7 nl o5 p2);omega) (by decide)
 ·refine q l [1+c/4%5,o/2%5-2,1] _ (by simp) (λx hx=>?_) nl (eC nl) aS
  simp only [List.mem_cons,List.not_mem_nil,or_false] at hx
  rcases hx with e|e|e<;>rw [e]<;>exact fM 1000 (by (try clear hr1 m19 m5 m7 m9 nl p2);omega) (by decide)
 all_goals
  refine q l [-r,1] _ (by simp) (λx hx=>?_) nl (eC nl) aS
  simp only [List.mem_cons,List.not_mem_nil,or_false] at hx
  rcases hx with e|e<;>rw [e]
  ·unfold Dr.Sm at br ⊢;((try clear c5 e hr1 m19 m5 m7 m9 nl o5 p2);omega)
  ·exact fM 1 (by (try clear c5 e hr1 m19 m5 m7 m9 nl o5 p2);omega) (by decide)
def bF (K:PySem.W.Frag):Sp:=λvs H Q _=>∃(p k:Int) (a:Addr) (ns:List Int),vs=[.int p,.ref a,.int k]∧p∈Dr.cm∧az K H a (ns.map V.int)∧ns.length≤63∧(0≤k∧k≤7) ∧
 ∀(l:Addr) (f:List Int) (H':Hp),(2≤f.length∧f.length≤7)→Dr.bX f 170→H l=none→aL H H'→H' l=some (.lst (f.map V.int))→Q (.ref l) H'
theorem zk (B:Bi mg K w)(dE:Def P w K mg base "_law_cell" 1 ["script","k"] (aU K))(yC:Def P w K mg base "_law_times" 1 ["f","g"] (gp K))(AW:Def P w K mg base "_law_part" 1 ["p","cell","other"] (hG K))(F:cD K "_law_poly" "_law_poly" ix f fd):bc P w K mg base cY 2 f fd ["p","script","start"] (bF K):=by
 refine F.ok sZ (λvs H Q E h=>?_) (λcdv A outer s H vs Q E hr h=>?_)
 ·obtain⟨p,k,a,ns,rfl,_⟩:=h
  rfl
 obtain⟨p,k,a,ns,rfl,hpp,hS,hl,hk,q⟩:=h
 have S:=sZ
 have p2:=Dr.cy hpp
 have m3:=dO (dQ ns k/8) (show (0:Int)<3 by decide)
 refine⟨_,((af (aB (i:=3) S.nd rfl (Or.inl rfl) (dS (aa (av cS ag (av cA (av cp (av eD (aD dE hr rfl (aa (pv 1) (aa (pv 2) ae))) ag) ag) (pv 0))) ae)))
  (af (fK PassesOwn.never rfl (Em rfl B.fO (aa (pv 2) (aa (aZ (wR rfl) rfl B.Gp L2.Du (aa (av cS (pv 2) ag) (aa (aZ (Dz rfl) rfl B.JM L2.Iw (aa (aZ cv rfl B.eI PySem.boot_len (aa (pv 1) ae)) (aa (av cS (pv 2) ag) ae))) ae))) (aa ag ae)))) (cI (i:=4) S.nd rfl (Or.inl rfl)) (ak (aB (i:=3) S.nd rfl (Or.inl rfl) (aD yC hr rfl (aa (pv 3) (aa (aD AW hr rfl (aa (pv 0) (aa (aD dE hr rfl (aa (pv 1) (aa (pv 4) ae))) (aa (aD dE hr rfl (aa (pv 1) (aa (av cS (pv 4) ag) ae))) ae)))) ae))))))
  (ak (aC (pv 3)))))),?_⟩
 walk_at "p";(try simp only [aU,gp,hG]);try walk_at "dr2"
 refine⟨ns,hS,hl,hk.1,by (try clear hl m3 p2);omega,iY ⟨by decide,by decide⟩,IntMulOk.of_left (intBits_le_64 (by (try clear hk hl p2);omega) (by (try clear hk hl p2);omega)),by decide,?_⟩
 have h1:0≤dQ ns k/8%3*p∧dQ ns k/8%3*p≤2*97:=⟨Int.mul_nonneg m3.1 (by (try clear hk hl m3);omega),Int.mul_le_mul (by (try clear hk hl p2);omega) (by (try clear hk hl m3);omega) (by (try clear hk hl m3);omega) (by decide)⟩
 generalize dQ ns k/8%3*p=y at h1 ⊢
 intro l0 n_l0;generalize e0:upd _ l0 _=H1;obtain⟨g1,k1⟩:=cL e0 n_l0;clear e0
 have k1:H1 l0=some (.lst ([1+y].map V.int)):=k1
 walk_at "p";(try simp only [aU,gp,hG]);try walk_at "dr2"
 refine⟨_,.inl (g1.seq hS),?_⟩
 rw [List.length_map]
 have tl:∀hi:Int,k+2≤hi→hi≤k+12→1≤turns k hi 4∧turns k hi 4≤3:=λhi h1 h2=>by
  unfold turns
  rw [if_pos (by (try clear hk hl k1 m3 n_l0 p2);omega)]
  ((try clear hk hl k1 m3 n_l0 p2);omega)
 have hb:∃hi:Int,hi=(if (if k+12<(ns.length:Int) then k+12 else (ns.length:Int)) > k+2 then (if k+12<(ns.length:Int) then k+12 else (ns.length:Int)) else k+2)∧k+2≤hi∧hi≤k+12:=⟨_,rfl,by split<;>split<;>((try clear h1 hk hl k1 m3 n_l0 p2);omega),by split<;>split<;>((try clear h1 hk hl k1 m3 n_l0 p2);omega)⟩
 obtain⟨hi,ehi,hi1,hi2⟩:=hb
 rw [←ehi]
 have t4:=tl hi hi1 hi2
 refine⟨by (try clear ehi h1 hi1 hi2 hl k1 m3 n_l0 p2 t4);omega,by (try clear ehi h1 hi1 hi2 hl k1 m3 n_l0 p2 t4);omega,by (try clear h1 hl k1 m3 n_l0 p2 t4);omega,by (try clear h1 hl k1 m3 n_l0 p2 t4);omega,?_⟩
 generalize turns k hi 4=many at t4 ⊢
 clear tl ehi
 obtain⟨Pv,hPv⟩:∃Pv:Nat→St→Hp→Prop,∀i σ H2,Pv i σ H2↔(aL H H2∧∃(l:Addr) (f:List Int) (t4:Option V),H l=none∧H2 l=some (.lst (f.map V.int))∧(1+i≤f.length∧f.length≤1+2*i)∧Dr.bX f (8+50*i)∧σ=[some (.int p),some (.ref a),some (.int k),some (.ref l),t4]):=⟨_,λ_ _ _=>Iff.rfl⟩
 (first | refine hX _ _ ?_ | skip);refine Kz Pv ((hPv _ _ _).mpr ⟨g1,l0,[1+y],none,n_l0,k1,by simp,(λx hx=>by rw [List.mem_singleton.mp hx];exact fM 195 (by (try clear hi1 hi2 hk hl k1 m3 n_l0 p2 t4);omega) (by decide)),rfl⟩) ?_ ?_
 ·intro i σ H2 hi z
  obtain⟨g2,l,f,t4,nl,kf,lf,bf,rfl⟩:=(hPv _ _ _).mp z
  walk_at "q";(try simp only [aU,gp,hG]);try walk_at "dr1"
  refine⟨ns,g2.seq hS,hl,by (try clear h1 hi hi1 hi2 hl k1 kf lf m3 n_l0 nl p2);omega,by (try clear h1 hi1 hi2 hl k1 kf lf m3 n_l0 nl p2);omega,ns,g2.seq hS,hl,by (try clear h1 hi hi1 hi2 hl k1 kf lf m3 n_l0 nl p2);omega,by (try clear h1 hi1 hi2 hl k1 kf lf m3 n_l0 nl p2);omega,hpp,λc g H3 lg bg nc g3 kg=>?_⟩
  refine⟨f,az.of (g3 _ _ kf),g,az.of kg,by (try clear h1 hi hi1 hi2 hk hl k1 kf kg lg m3 n_l0 nc nl p2);omega,by (try clear h1 hi1 hi2 hk hl k1 kf kg lg m3 n_l0 nc nl p2);omega,by (try clear h1 hi hi1 hi2 hk hl k1 kf kg lf m3 n_l0 nc nl p2);omega,by (try clear h1 hi hi1 hi2 hk hl k1 kf kg lf m3 n_l0 nc nl p2);omega,_,bf,31,bg,by (try clear h1 hi1 hi2 hk hl k1 kf kg lf lg m3 n_l0 nc nl p2);omega,by decide,λc2 r H4 hr br nc2 g4 kr=>?_⟩
  have lr:=hr.len
  exact (hPv _ _ _).mpr ⟨g2.trans (g3.trans g4),c2,r,_,(g2.trans g3).free nc2,kr,by (try clear h1 hi1 hi2 hk hl k1 kf kg kr m3 n_l0 nc nc2 nl p2);omega,(λx hx=>(br x hx).mono (by (try clear h1 hi hi1 hi2 hk hl k1 kf kg kr lf lg lr m3 n_l0 nc nc2 nl p2);omega)),rfl⟩
 ·intro σ H2 z
  obtain⟨g2,l,f,t4,nl,kf,lf,bf,rfl⟩:=(hPv _ _ _).mp z
  walk_at "q";(try simp only [aU,gp,hG]);try walk_at "dr1"
  exact q l f H2 (by (try clear h1 hi1 hi2 hk hl k1 kf m3 n_l0 nl p2);omega) (λx hx=>(bf x hx).mono (by (try clear h1 hi1 hi2 hk hl k1 kf lf m3 n_l0 nl p2);omega)) nl g2 kf
theorem Dm (x:Int):PyData.strOk (Tx.tx x)=true:=by
 unfold PyData.strOk
 rw [Array.all_eq_true']
 intro c hc
 rw [decide_eq_true_eq]
 rcases Tx.p0 x c (Array.mem_toList_iff.mpr hc) with e|e<;>omega
theorem Eb {a b:Str}(ha:PyData.strOk a=true)(hb:PyData.strOk b=true):PyData.strOk (a++b)=true:=by
 unfold PyData.strOk at ha hb ⊢
 show (a.cps++b.cps).all _=true
 rw [Array.all_append,ha,hb]
 rfl
theorem Gw {c:Str}(hc:PyData.strOk c=true)(b:Int×Int):PyData.strOk (pt c b)=true:=Eb (Eb (Dm _) hc) (Dm _)
theorem Kx {K:PySem.W.Frag}{H:Hp}{a b:Addr}{Q:VK}{ts:List Str}(hb:∀t∈ts,PyData.strOk t=true)(h:az K H a (ts.map V.str))(h':az K H b [])(q:Q (.bl (decide (ts=[]))) H):zM K false (.ref a) (.ref b) H Q:=by
 have sh:SeqAt.shaped (.list (ts.map PyData.str))=true:=by
  unfold SeqAt.shaped
  simp [PyData.canLay0,PyData.depth,tM ts hb,uZ]
 refine⟨_,.list [],.lst h (ia.strs ts),.lst h' .nil,sh,by decide,?_⟩
 rw [if_neg (by decide)]
 have e:PyData.eqv (.list (ts.map PyData.str)) (.list [])=decide (ts=[]):=by
  cases ts with
  | nil=>decide
  | cons t ts=>simp [PyData.eqv,PyData.eqvAll]
 rw [e]
 exact q
def bV (K:PySem.W.Frag):Sp:=λvs H Q _=>∃(a:Addr) (ts:List Str),vs=[.ref a]∧H a=some (.lst (ts.map V.str))∧(∀t,t∈ts→PyData.strOk t=true)∧(ts.length≤14∧∀t,t∈ts→t.length≤200)∧∀H',aL H H'→Q (.str (lE ts)) H'
theorem xE (B:Bi mg K w)(F:cD K "_law_words" "_law_words" gM f fd):bc P w K mg base cY 1 f fd ["words"] (bV K):=by
 refine F.ok qI (λvs H Q E h=>?_) (λcdv A outer s H vs Q E hr h=>?_)
 ·obtain⟨a,ts,rfl,_⟩:=h
  rfl
 obtain⟨a,ts,rfl,hS,ho,hl,q⟩:=h
 have S:=qI
 refine⟨_,((af (bN (aF (Jj hr.units) (pv 0) (dS ae) (aQ _)) (ak (aC bH)) aR)
  (ak (aC (jf PySem.F.plainAttrs_str PySem.F.slot_str_join PySem.F.type_str_join oS bH (aa (pv 0) ae)))))),?_⟩
 walk_at "p"
 refine⟨by decide,?_⟩
 intro l n_l;generalize e0:upd _ l _=H1;obtain⟨g1,k1⟩:=cL e0 n_l;clear e0
 refine Kx ho (az.of (g1 _ _ hS)) (az.of k1) ⟨_,rfl,?_⟩
 have q:=q H1 g1
 unfold lE at q
 by_cases c:ts=[]
 ·rw [if_pos c] at q
  rw [if_pos (by simp [c])]
  exact q
 ·rw [if_neg c] at q
  rw [if_neg (by simp [c])]
  walk_at "q"
  refine⟨rfl,_,a,ts,rfl,rfl,az.of (g1 _ _ hS),ve hl.1 hl.2,?_⟩
  rw [Tx.join_eq]
  exact q
theorem yv {X:Cx}:fz X (.type "str") (λxs H Q=>(∃i:Int,xs=[.int i]∧i.natAbs.log2<1920∧Q (.str (toString i)) H)∨(xs=[.cU]∧Q (.str "None") H)):=by
 intro pins s σ H xs us Q I r h
 rcases h with⟨i,rfl,hz,q⟩|⟨rfl,q⟩
 ·obtain⟨u,rfl,t,rfl⟩:=vals1 r
  exact PySem.P.str_of_int hz ⟨.str _,H,I.tok _,⟨_,rfl⟩,q⟩
 ·obtain⟨u,rfl,r1⟩:=vals1 r
  cases r1
  exact PySem.P.str_of_none ⟨.str _,H,I.tok _,⟨_,rfl⟩,q⟩
theorem iT.at {K:PySem.W.Frag}{H H':Hp}{p:Int}{b l:Addr}{f:List Int}{a N m:Int}(A:iT K H p b f a N m)(k:H' l=some (.lst (f.map V.int))):iT K H' p l f a N m:=⟨az.of k,A.len,A.pr,A.bits,A.ra,A.dN,A.rm⟩
def iJ (K:PySem.W.Frag):Sp:=λvs H Q E=>∃(p:Int) (b c:Addr) (f:List Int) (a N m:Int) (w':Nat),vs=[.int (w':Int),.int p,.ref b,.ref c]∧w'<8∧az K H c [.int a,.int N,.int m]∧iT K H p b f a N m∧∀(r:Str⊕Str) (H':Hp),eZ p f a N m w' r→aL H H'→Out K Q E r H'
theorem Bb (B:Bi mg K w)(q8:Def P w K mg base "ball_of" 2 ["p","x","e"] (bS K))(om:gz P w K mg base "border_of" 3 ["p","f"] (bP K))(jV:gz P w K mg base "small_fraction" 2 ["p","one","m"] (aG K))(gJ:Def P w K mg base "single_depth" 2 ["p","f","a"] (aN K))(lQ:gz P w K mg base "root_of" 4 ["p","f","a","N"] (bE K))(km:gz P w K mg base "endless_roots" 66 ["p","f","N"] (aT K))(gw:Def P w K mg base "solving_balls" 67 ["p","f","N"] (aO K))(kn:Def P w K mg base "solving_rests" 68 ["p","f","N"] (aX K))(mR:Def P w K mg base "_law_words" 1 ["words"] (bV K))(F:cD K "_law_due" "_law_due" jj f fd):bc P w K mg base (eh P w) 69 f fd ["way","p","f","cells"] (iJ K):=by
 refine F.jM uD (λvs H Q E h=>?_) (λcdv A outer s H vs Q E hr h=>?_)
 ·obtain⟨p,b,c,f,a,N,m,w',rfl,_⟩:=h
  rfl
 obtain⟨p,b,c,f,a,N,m,w',rfl,hw,hC,A,q⟩:=h
 have S:=uD
 refine⟨_,((af (zI (pv 3) (El rfl (d8 (cI (i:=4) S.nd rfl (Or.inl rfl)) (d8 (cI (i:=5) S.nd rfl (Or.inl rfl)) (d8 (cI (i:=6) S.nd rfl (Or.inl rfl)) kZ)))))
  (af (bN (aF cP (pv 0) ag (aQ _)) (ak (aC (aD mR hr rfl (aa (pU [] [] rfl rfl trivial trivial rfl rfl (by decide) (by decide) rfl rfl rfl (by decide) (d3 (aD gw hr rfl (aa (pv 1) (aa (cb gH rfl B.oK L2.mE (aa (pv 2) ae)) (aa (pv 5) ae))))) (λ_ _ _ _=>dG) (λ_ _ _ _=>(av cO (av cO (cb cj rfl B.ez L2.dD (aa (pv 0) ae)) bH) (cb cj rfl B.ez L2.dD (aa (pv 1) ae))))) ae)))) aR)
  (af (bN (aF cP (pv 0) ag (aQ _)) (ak (aC (cb cj rfl B.ez L2.dD (aa (aD kn hr rfl (aa (pv 1) (aa (cb gH rfl B.oK L2.mE (aa (pv 2) ae)) (aa (pv 5) ae)))) ae)))) aR)
  (af (bN (aF cP (pv 0) ag (aQ _)) (af (aB (i:=7) S.nd rfl (Or.inl rfl) (aD gJ hr rfl (aa (pv 1) (aa (cb gH rfl B.oK L2.mE (aa (pv 2) ae)) (aa (pv 4) ae)))))
  (ak (aC (ba bK (dS (aa bH (aa (cb yv rfl B.ez L2.dD (aa (pv 7) ae)) ae))) (cb Dw rfl B.x9 L2.uW (aa (mH Hs (pv 7) jN (aQ _)) ae)) (λ_ _=>rfl))))) aR)
  (af (bN (aF cP (pv 0) ag (aQ _)) (ak (aC (cb cj rfl B.ez L2.dD (aa (e8 ig lQ hr rfl (aa (pv 1) (aa (cb gH rfl B.oK L2.mE (aa (pv 2) ae)) (aa (pv 4) (aa (pv 5) ae))))) ae)))) aR)
  (af (bN (aF cP (pv 0) ag (aQ _)) (ak (aC (aD mR hr rfl (aa (eU [] [] rfl rfl trivial trivial rfl rfl (by decide) (by decide) rfl rfl (by decide) (d3 (e8 ig km hr rfl (aa (pv 1) (aa (cb gH rfl B.oK L2.mE (aa (pv 2) ae)) (aa (pv 5) ae))))) (λ_ _ _ _=>dG) (λ_ _ _ _=>(cb cj rfl B.ez L2.dD (aa (pv 0) ae)))) ae)))) aR)
  (af (bN (aF cP (pv 0) ag (aQ _)) (ak (aC (aD mR hr rfl (aa (pU [] [] rfl rfl trivial trivial rfl rfl (by decide) (by decide) rfl rfl rfl (by decide) (d3 (e8 ig om hr rfl (aa (pv 1) (aa (cb gH rfl B.oK L2.mE (aa (pv 2) ae)) ae)))) (λ_ _ _ _=>dG) (λ_ _ _ _=>(av cO (av cO (cb cj rfl B.ez L2.dD (aa (pv 0) ae)) bH) (cb cj rfl B.ez L2.dD (aa (pv 1) ae))))) ae)))) aR)
  (af (bN (aF cP (pv 0) ag (aQ _)) (af (aB (i:=7) S.nd rfl (Or.inl rfl) (e8 ig jV hr rfl (aa (pv 1) (aa (aD q8 hr rfl (aa (pv 1) (aa (pv 4) (aa (pv 5) ae)))) (aa (pv 6) ae)))))
  (af (bN (aF vn (pv 7) jN (aQ _)) (ak (aC bH)) aR)
  (ak (aC (av cO (av cO (cb cj rfl B.ez L2.dD (aa (ba cR (pv 7) ag (λ_ _=>rfl)) ae)) bH) (cb cj rfl B.ez L2.dD (aa (ba cR (pv 7) ag (λ_ _=>rfl)) ae))))))) aR)
  (ak (aC (jf PySem.F.plainAttrs_str PySem.F.slot_str_join PySem.F.type_str_join oS bH (aa (eU [] [] rfl rfl trivial trivial rfl rfl (by decide) (by decide) rfl rfl (by decide) (d3 (pv 2)) (λ_ _ _ _=>dG) (λ_ _ _ _=>(cb cj rfl B.ez L2.dD (aa (pv 0) ae)))) ae))))))))))))),?_⟩
 have hp:=A.hp
 have hN:=A.dN
 have q0:=Dr.pow_pos hp.1 N.toNat
 walk_at "p";(try simp only [bS,bP,aG,aN,bE,aT,aO,aX,bV]);try walk_at "dr2"
 refine⟨_,hC,rfl,_,_,rfl,_,_,rfl,_,_,rfl,rfl,?_⟩
 walk_at "p";(try simp only [bS,bP,aG,aN,bE,aT,aO,aX,bV]);try walk_at "dr2"
 refine cG (λe=>?_) (λe=>?_)
 ·obtain rfl:w'=0:=by ((try clear hN hp hw q0);omega)
  refine⟨_,.inl A.sq,λl nl=>⟨f,az.of aS,A.len.1,A.len.2,A.pr,hN.1,hN.2,190,A.bits,by decide,λc1 as bs H1 so lb hd nc g1 k1 hP=>⟨⟨_,az.of k1⟩,?_⟩⟩⟩
  have hI:=hP.ints
  have bx:=vB A.pr A.dN so hd
  have q:=λH'=>q _ H' (.solve so)
  have lb:(bs.map rD).length≤13:=by rw [List.length_map];exact lb
  generalize bs.map rD=fs at hI bx q lb
  refine mv (Str.ofString "@") lb k1 hI bx (λb H Q pg q=>?_) λl2 n2=>?_
  ·walk_at "q";(try simp only [bS,bP,aG,aN,bE,aT,aO,aX,bV]);try walk_at "dr1"
   exact⟨fB pg.b1,pg.E5 oJ,jL pg.b2,pg.E6 oJ,q⟩
  ·have wo:=qc oJ lb bx
   refine⟨l2,rfl,_,aS,(λt ht=>?_),wo.1,wo.2,λH' g=>q _ ((eC nl).trans (g1.trans ((eC n2).trans g)))⟩
   obtain⟨b,_,rfl⟩:=List.mem_map.mp ht
   exact Gw (by decide +kernel) b
 walk_at "p";(try simp only [bS,bP,aG,aN,bE,aT,aO,aX,bV]);try walk_at "dr2"
 refine cG (λe=>?_) (λe=>?_)
 ·obtain rfl:w'=1:=by ((try clear hN hp hw q0);omega)
  exact⟨_,.inl A.sq,λl nl=>⟨f,az.of aS,A.len.1,A.len.2,A.pr,hN.1,hN.2,190,A.bits,by decide,λbs H' so lb g=>⟨oR (by have:=zc (N:=N) A.pr A.dN lb;((try clear e hN hp hw lb nl q0);omega)),q _ H' (.count so) ((eC nl).trans g)⟩⟩⟩
 walk_at "p";(try simp only [bS,bP,aG,aN,bE,aT,aO,aX,bV]);try walk_at "dr2"
 refine cG (λe=>?_) (λe=>?_)
 ·obtain rfl:w'=2:=by ((try clear hN hp hw q0);omega)
  walk_at "p";(try simp only [bS,bP,aG,aN,bE,aT,aO,aX,bV]);try walk_at "dr2"
  refine⟨_,.inl A.sq,λl nl=>⟨f,az.of aS,A.len.1,A.len.2,190,A.bits,100,A.GN,by decide,by decide,hp.1,hp.2,λH' g=>⟨λd u hs hd=>?_,λno=>?_⟩⟩⟩
  ·walk_at "q";(try simp only [bS,bP,aG,aN,bE,aT,aO,aX,bV]);try walk_at "dr1"
   exact⟨y8 hd,by decide,λl2 n2=>⟨_,az.of aS,_,aM (j:=1) rfl,q _ _ (.single hs) ((eC nl).trans (g.trans (eC n2)))⟩⟩
  ·walk_at "q";(try simp only [bS,bP,aG,aN,bE,aT,aO,aX,bV]);try walk_at "dr1"
   exact⟨by decide,λl2 n2=>⟨_,az.of aS,_,aM (j:=0) rfl,q _ _ (.zg no) ((eC nl).trans (g.trans (eC n2)))⟩⟩
 walk_at "p";(try simp only [bS,bP,aG,aN,bE,aT,aO,aX,bV]);try walk_at "dr2"
 refine cG (λe=>?_) (λe=>?_)
 ·obtain rfl:w'=3:=by ((try clear hN hp hw q0);omega)
  exact⟨_,.inl A.sq,λl nl=>⟨f,az.of aS,A.len.1,A.len.2,A.pr,190,A.bits,100,A.GN,by decide,by decide,.inl ⟨by decide,by decide⟩,hN.1,hN.2,λH' g=>⟨λd u hs=>⟨λc=>⟨fB (lq hp (by (try clear c e hp hw nl q0);omega) (dO a q0)),q _ H' (.root hs (.inl ⟨c,rfl⟩)) ((eC nl).trans g)⟩,λc r R=>⟨fB (lq hp (by (try clear e hp hw nl q0);omega) ⟨R.lo,R.hi⟩),q _ H' (.root hs (.inr ⟨c,R⟩)) ((eC nl).trans g)⟩⟩,λno=>q _ H' (.D7 no) ((eC nl).trans g)⟩⟩⟩
 walk_at "p";(try simp only [bS,bP,aG,aN,bE,aT,aO,aX,bV]);try walk_at "dr2"
 refine cG (λe=>?_) (λe=>?_)
 ·obtain rfl:w'=4:=by ((try clear hN hp hw q0);omega)
  refine⟨_,.inl A.sq,λl nl=>⟨f,az.of aS,A.len.1,A.len.2,A.pr,hN.1,hN.2,190,A.bits,by decide,(λz H' g=>q _ H' (.je z) ((eC nl).trans g)),(λd n H' g=>q _ H' (.deep d n) ((eC nl).trans g)),λc L M H1 hF pm so nc g1 kc=>?_⟩⟩
  have eQ:=hF.eQ A.pr
  have lL:L.length≤14:=by rw [pm.length_eq];have:=A.len;((try clear e hN hp hw kc nc nl q0);omega)
  have bL:∀x,x∈L→x.natAbs<10^182:=λx hx=>lq hp (show N.toNat≤60 by ((try clear e eQ hp hw kc lL nc nl q0);omega)) (ud hp.1 hF x (pm.mem_iff.mp hx))
  refine⟨⟨_,az.of kc⟩,nR lL (az.of kc) bL (λx H Q hx q=>?_) λl2 n2=>?_⟩
  ·walk_at "q";(try simp only [bS,bP,aG,aN,bE,aT,aO,aX,bV]);try walk_at "dr1"
   exact⟨fB hx,q⟩
  ·have wo:=BN lL bL
   refine⟨l2,rfl,_,aS,(λt ht=>?_),wo.1,wo.2,λH' g=>q _ H' (.roots hF pm so) ((eC nl).trans (g1.trans ((eC n2).trans g)))⟩
   obtain⟨x,_,rfl⟩:=List.mem_map.mp ht
   exact Dm x
 walk_at "p";(try simp only [bS,bP,aG,aN,bE,aT,aO,aX,bV]);try walk_at "dr2"
 refine cG (λe=>?_) (λe=>?_)
 ·obtain rfl:w'=5:=by ((try clear hN hp hw q0);omega)
  refine⟨_,.inl A.sq,λl nl=>⟨f,az.of aS,hp.1,hp.2,A.len.2,(λx hx=>(A.bits x hx).mono (by decide)),λms hM=>⟨λe H' g=>q _ H' (.zf (e▸hM)) ((eC nl).trans g),λn lb tb c as H1 nc g1 k1 hI=>⟨⟨_,az.of k1⟩,?_⟩⟩⟩⟩
  have bx:=wO tb
  have q:=λH'=>q _ H' (.oM hM n)
  generalize oi ms=fs at hI bx q lb
  refine mv (Str.ofString ":") lb k1 hI bx (λb H Q pg q=>?_) λl2 n2=>?_
  ·walk_at "q";(try simp only [bS,bP,aG,aN,bE,aT,aO,aX,bV]);try walk_at "dr1"
   exact⟨fB pg.b1,pg.E5 oN,jL pg.b2,pg.E6 oN,q⟩
  ·have wo:=qc oN lb bx
   refine⟨l2,rfl,_,aS,(λt ht=>?_),wo.1,wo.2,λH' g=>q _ ((eC nl).trans (g1.trans ((eC n2).trans g)))⟩
   obtain⟨b,_,rfl⟩:=List.mem_map.mp ht
   exact Gw (by decide +kernel) b
 walk_at "p";(try simp only [bS,bP,aG,aN,bE,aT,aO,aX,bV]);try walk_at "dr2"
 refine cG (λe=>?_) (λe=>?_)
 ·obtain rfl:w'=6:=by ((try clear hN hp hw q0);omega)
  walk_at "p";(try simp only [bS,bP,aG,aN,bE,aT,aO,aX,bV]);try walk_at "dr2"
  refine⟨hp.1,hp.2,hN.1,hN.2,λl H1 g1 nl k1=>⟨_,N,dC.of k1,hp.1,hp.2,hN.1,hN.2,A.Km,(λc H' g=>q _ H' (.BM c) (g1.trans g)),λc=>⟨λT B' c' H' e bT bB g kc=>?_,λe H' g=>?_⟩⟩⟩
  ·have b1:T.natAbs<10^182:=zb (by have:=A.rm;((try clear bB e hN hp hw k1 kc nl q0);omega))
   have b2:B'.natAbs<10^12:=mw (by have:=A.rm;((try clear b1 bT e hN hp hw k1 kc nl q0);omega))
   have pg:PG (T,B'):=⟨b1,b2⟩
   have h1:=pg.E5 vz
   have h2:=pg.E6 vz
   dsimp only at h1 h2
   have q:=q _ H' (.small c) (g1.trans g)
   rw [e] at q
   walk_at "p";(try simp only [bS,bP,aG,aN,bE,aT,aO,aX,bV]);try walk_at "dr2"
   walk_at "q";(try simp only [bS,bP,aG,aN,bE,aT,aO,aX,bV]);try walk_at "dr1"
   exact⟨_,dC.of kc,_,aM (j:=0) rfl,_,rfl,fB b1,h1,_,dC.of kc,_,aM (j:=1) rfl,_,rfl,jL b2,h2,q⟩
  ·walk_at "q";(try simp only [bS,bP,aG,aN,bE,aT,aO,aX,bV]);try walk_at "dr1"
   have q:=q _ H' (.small c) (g1.trans g)
   rw [e] at q
   exact q
 obtain rfl:w'=7:=by ((try clear hN hp q0);omega)
 walk_at "q";(try simp only [bS,bP,aG,aN,bE,aT,aO,aX,bV]);try walk_at "dr1"
 have b60:=kN A.bits
 have b190:=λx hx=>za (b60 x hx)
 have lf:=A.len
 refine⟨rfl,⟨_,A.sq⟩,nR (by (try clear e hN hp hw q0);omega) A.sq (λx hx=>Nat.lt_of_lt_of_le (b60 x hx) (by decide +kernel)) (λx H Q hx q=>?_) λl2 n2=>?_⟩
 ·walk_at "q";(try simp only [bS,bP,aG,aN,bE,aT,aO,aX,bV]);try walk_at "dr1"
  exact⟨fB hx,q⟩
 ·exact⟨_,l2,_,rfl,rfl,az.of aS,yR (by (try clear e hN hp hw n2 q0);omega) b190,q _ _ .B2 (eC n2)⟩
theorem Ay {y:Int}(h:-200≤y∧y≤200):(Str.ofString (toString y)).length≤13:=EG (mw (by omega))
theorem gv {x y:Str}{m n:Nat}(hx:x.length≤m)(hy:y.length≤n)(h:m+n≤1000):x.length+y.length≤sizeLine:=Nat.le_trans (Nat.le_trans (Nat.add_le_add hx hy) h) (by decide)
theorem eN {x y:Str}{m n:Nat}(hx:x.length≤m)(hy:y.length≤n):(x++y).length≤m+n:=by
 rw [ja]
 exact Nat.add_le_add hx hy
theorem c9:(Str.ofString "solve a").length≤9∧(Str.ofString "count a").length≤9∧(Str.ofString "single a ").length≤9∧(Str.ofString "root a ").length≤9∧(Str.ofString "roots a").length≤9∧(Str.ofString "border a").length≤9∧(Str.ofString "small ").length≤9∧(Str.ofString "show a").length≤9∧(Str.ofString " ").length≤1:=by decide +kernel
theorem lO (a b c:Str):a++b++c=a++(b++c):=by
 show Str.mk (a.cps++b.cps++c.cps)=Str.mk (a.cps++(b.cps++c.cps))
 rw [Array.append_assoc]
theorem FN {s x:Str}(h:s=x++Str.ofString " "++Str.ofString "a")(t:Str):s++(Str.ofString " "++t)=Str.join (Str.ofString " ") [x,"a",t]:=by
 show _=x++Str.ofString " "++(Str.ofString "a"++Str.ofString " "++t)
 rw [h]
 simp only [lO]
theorem Jx {s x:Str}(h:s=x++Str.ofString " "++(Str.ofString "a"++Str.ofString " "))(t:Str):s++t=Str.join (Str.ofString " ") [x,"a",t]:=by
 show _=x++Str.ofString " "++(Str.ofString "a"++Str.ofString " "++t)
 rw [h]
 simp only [lO]
theorem J0 {s x:Str}(h:s=x++Str.ofString " "++(Str.ofString "a"++Str.ofString " "))(t u:Str):s++t++(Str.ofString " "++u)=Str.join (Str.ofString " ") [x,"a",t,u]:=by
 show _=x++Str.ofString " "++(Str.ofString "a"++Str.ofString " "++(t++Str.ofString " "++u))
 rw [h]
 simp only [lO]
theorem Jy {s x:Str}(h:s=x++Str.ofString " ")(t u v:Str):s++t++(Str.ofString " "++u)++Str.ofString " "++v=Str.join (Str.ofString " ") [x,t,u,v]:=by
 show _=x++Str.ofString " "++(t++Str.ofString " "++(u++Str.ofString " "++v))
 rw [h]
 simp only [lO]
def bO (K:PySem.W.Frag):Sp:=λvs H Q _=>∃(c:Addr) (a N m:Int) (w':Nat),vs=[.int (w':Int),.ref c]∧w'<8∧az K H c [.int a,.int N,.int m]∧(-200≤a∧a≤200)∧(0≤N∧N≤60)∧(-200≤m∧m≤200) ∧
 ∀(dw:Str) (ks:List Kd) (at0 g:Addr) (th:V→V→V→V→List V) (ws:List Str) (H':Hp),gf "a" a N m w' dw ks at0 g th ws→(Str.join (Str.ofString " ") (dw::ws)).length≤100→aL H H'→Q (.str (Str.join (Str.ofString " ") (dw::ws))) H'
theorem Bc (B:Bi mg K w)(F:cD K "_law_row" "_law_row" jk f fd):bc P w K mg base cY 1 f fd ["way","cells"] (bO K):=by
 refine F.ok uE (λvs H Q E h=>?_) (λcdv A outer s H vs Q E hr h=>?_)
 ·obtain⟨c,a,N,m,w',rfl,_⟩:=h
  rfl
 obtain⟨c,a,N,m,w',rfl,hw,hC,ha,hN,hm,q⟩:=h
 have S:=uE
 refine⟨_,((af (zI (pv 1) (El rfl (d8 (cI (i:=2) S.nd rfl (Or.inl rfl)) (d8 (cI (i:=3) S.nd rfl (Or.inl rfl)) (d8 (cI (i:=4) S.nd rfl (Or.inl rfl)) kZ)))))
  (af (aB (i:=5) S.nd rfl (Or.inl rfl) (av cO bH (cb cj rfl B.ez L2.dD (aa (pv 3) ae))))
  (af (aB (i:=6) S.nd rfl (Or.inl rfl) (dS (aa (av cO bH (pv 5)) (aa (av cO bH (pv 5)) (aa (av cO bH (cb cj rfl B.ez L2.dD (aa (pv 2) ae))) (aa (av cO (av cO bH (cb cj rfl B.ez L2.dD (aa (pv 2) ae))) (pv 5)) (aa (av cO bH (pv 5)) ae)))))))
  (af (aB (i:=6) S.nd rfl (Or.inl rfl) (av Ji (pv 6) (dS (aa bH (aa (av cO (av cO (av cO (av cO bH (cb cj rfl B.ez L2.dD (aa (pv 2) ae))) (pv 5)) bH) (cb cj rfl B.ez L2.dD (aa (pv 4) ae))) (aa bH ae))))))
  (ak (aC (ba bK (pv 6) (pv 0) (λ_ _=>rfl))))))))),?_⟩
 have la:=Ay ha
 have lm:=Ay hm
 have lN:=Ay (show -200≤N∧N≤200 by ((try clear ha hm hw la lm);omega))
 have ga:a.natAbs.log2<1920:=jL (mw (by (try clear hN hm hw lN la lm);omega))
 have gm:m.natAbs.log2<1920:=jL (mw (by (try clear ga hN ha hw lN la lm);omega))
 have gN:N.natAbs.log2<1920:=jL (mw (by (try clear ga gm ha hm hw lN la lm);omega))
 walk_at "p"
 refine⟨_,hC,rfl,_,_,rfl,_,_,rfl,_,_,rfl,rfl,?_⟩
 walk_at "p"
 obtain⟨c1,c2,c3,c4,c5,c6,c7,c8,c0⟩:=c9
 have bD:=eN c0 lN
 refine⟨gN,gv c0 lN (by decide),?_⟩
 walk_at "p"
 refine⟨gv c1 bD (by decide),gv c2 bD (by decide),ga,gv c3 la (by decide),ga,gv c4 la (by decide),gv (eN c4 la) bD (by decide),gv c5 bD (by decide),by decide,?_⟩
 intro l1 n_l1;generalize e0:upd _ l1 _=H1;obtain⟨g1,k1⟩:=cL e0 n_l1;clear e0
 walk_at "p"
 have b6:=eN (eN (eN c7 la) bD) c0
 refine⟨ga,gv c7 la (by decide),gv (eN c7 la) bD (by decide),gv (eN (eN c7 la) bD) c0 (by decide),gm,gv b6 lm (by decide),by decide,?_⟩
 intro l2 n_l2;generalize e0:upd _ l2 _=H2;obtain⟨g2,k2⟩:=cL e0 n_l2;clear e0
 refine⟨_,g2 _ _ k1,_,k2,(show 8≤sizeLine by decide),?_⟩
 intro l3 n_l3;generalize e0:upd _ l3 _=H3;obtain⟨g3,k3⟩:=cL e0 n_l3;clear e0
 have G:=g1.trans (g2.trans g3)
 have fin:∀{s:Str} {dw:Str} {ks:List Kd} {at0 g:Addr} {th:V→V→V→V→List V} {ws:List Str},gf "a" a N m w' dw ks at0 g th ws→s=Str.join (Str.ofString " ") (dw::ws)→s.length≤100→Q (.str s) H3:=λtr e l=>by
  rw [e] at l ⊢
  exact q _ _ _ _ _ _ H3 tr l G
 walk_at "q"
 refine⟨_,az.of k3,?_⟩
 match w',hw with
 | 0,_=>exact⟨_,aM (j:=0) rfl,fin .solve (FN (by decide +kernel) _) (Nat.le_trans (eN c1 bD) (by decide))⟩
 | 1,_=>exact⟨_,aM (j:=1) rfl,fin .count (FN (by decide +kernel) _) (Nat.le_trans (eN c2 bD) (by decide))⟩
 | 2,_=>exact⟨_,aM (j:=2) rfl,fin .single (Jx (by decide +kernel) _) (Nat.le_trans (eN c3 la) (by decide))⟩
 | 3,_=>exact⟨_,aM (j:=3) rfl,fin .root (J0 (by decide +kernel) _ _) (Nat.le_trans (eN (eN c4 la) bD) (by decide))⟩
 | 4,_=>exact⟨_,aM (j:=4) rfl,fin .roots (FN (by decide +kernel) _) (Nat.le_trans (eN c5 bD) (by decide))⟩
 | 5,_=>exact⟨_,aM (j:=5) rfl,fin .oM (by decide +kernel) (Nat.le_trans c6 (by decide))⟩
 | 6,_=>exact⟨_,aM (j:=6) rfl,fin .small (Jy (by decide +kernel) _ _ _) (Nat.le_trans (eN b6 lm) (by decide))⟩
 | 7,_=>exact⟨_,aM (j:=7) rfl,fin .B2 (by decide +kernel) (Nat.le_trans c8 (by decide))⟩
def Val (H:Hp):Str⊕Str→V→Prop
 | .inl s,v=>v = .str s
 | .inr C,v=>∃l,v = .ref l∧H l=some (.lst ([C == "NoDepth",C == "NoSingle",C == "NoSmall",C == "TooDeep"].map V.bl))
theorem eZ.cls {p:Int}{f:List Int}{a N m:Int}{w':Nat}{C:Str}(h:eZ p f a N m w' (.inr C)):C∈w8:=by
 have k:∀{D:Str},D∈w8→(Sum.inr C:Str⊕Str) = .inr D→C∈w8:=λhD e=>Sum.inr.inj e▸hD
 match w',h with
 | 0,⟨_,_,e⟩=>cases e
 | 1,⟨_,_,e⟩=>cases e
 | 2,h=>rcases h with⟨_,_,_,e⟩ | ⟨_,e⟩<;>cases e
 | 3,.inl ⟨_,_,_,_,_,e⟩=>cases e
 | 3,.inr ⟨_,e⟩=>exact k (by decide +kernel) e
 | 4,.inl ⟨_,_,_,_,_,e⟩=>cases e
 | 4,.inr (.inl ⟨_,e⟩)=>exact k (by decide +kernel) e
 | 4,.inr (.inr ⟨_,_,e⟩)=>exact k (by decide +kernel) e
 | 5,⟨_,_,.inl ⟨_,e⟩⟩=>cases e
 | 5,⟨_,_,.inr ⟨_,e⟩⟩=>exact k (by decide +kernel) e
 | 6,.inl ⟨_,e⟩=>exact k (by decide +kernel) e
 | 6,.inr ⟨_,e⟩=>cases e
 | n+7,h=>cases h
theorem DC {C:Str}(B:Bi mg K w)(h:C∈w8):PySem.W.exmOne K (.ref (cq K C)) (.ref (cq K "RestError"))=some true∧Xc.jT K (cq K C):=by
 simp only [w8,List.mem_cons,List.not_mem_nil,or_false] at h
 rcases h with rfl|rfl|rfl|rfl
 ·exact⟨B.iO,B.rf⟩
 ·exact⟨B.ie,B.pG⟩
 ·exact⟨B.iP,B.rg⟩
 ·exact⟨B.iQ,B.rh⟩
theorem nQ {C b:Str}(B:Bi mg K w)(h:C∈w8)(hb:b∈IZ)(hr:(b == "RestError")=false):PySem.W.kitOne K (.ref (cq K C)) (.ref (cq K b))=some (C == b):=B.KR ⟨h,hb,by unfold bC;rw [hr,Bool.or_false]⟩
def bG (K:PySem.W.Frag):Sp:=λvs H Q _=>∃(d dx kd:Addr) (p:Int) (kvs:List (Key×V)) (b:Addr) (f:List Int) (a N m:Int) (w':Nat) (dw:Str) (ks:List Kd) (at0 g:Addr) (th:V→V→V→V→List V) (ws:List Str),vs=[.ref d,.str (Str.join (Str.ofString " ") (dw::ws))]∧fI K H d dx kd p kvs∧kvs.length<900∧(Str.join (Str.ofString " ") (dw::ws)).length≤100∧gf "a" a N m w' dw ks at0 g th ws∧Ck K H kvs "a" b p f a N m ∧
 ∀(r:Str⊕Str) (v:V) (H':Hp),eZ p f a N m w' r→aL H H'→Val H' r v→Q v H'
theorem zl (B:Bi mg K w)(r9:Met P w K mg base (eh P w) (cq K "Desk") "say" 70 ["self","row"] (cJ K))(F:cD K "_law_said" "_law_said" iy f fd):bc P w K mg base cY 71 f fd ["desk","row"] (bG K):=by
 refine F.ok tj (λvs H Q E h=>?_) (λcdv A outer s H vs Q E hr h=>?_)
 ·obtain⟨d,dx,kd,p,kvs,b,f,a,N,m,w',dw,ks,at0,g,th,ws,rfl,_⟩:=h
  rfl
 obtain⟨d,dx,kd,p,kvs,b,f,a,N,m,w',dw,ks,at0,g,th,ws,rfl,hd,hk,hl,tr,st,q⟩:=h
 have S:=tj
 refine⟨_,((af (aB (i:=2) S.nd rfl (Or.inl rfl) jN)
  (af (zL rfl rfl rfl B.tK S.nd (i:=3) rfl rfl (λ_ _ _ hx=>(ak (aB (i:=2) S.nd rfl (Or.inl rfl) (Hy hx B.d9 r9 hr (pv 0) (aa (pv 1) ae))))) (λ_=>(ak (aB (i:=2) S.nd rfl (Or.inl rfl) (dS (aa (aZ (hZ (K:=K) rfl) rfl B.dq L2.cW (aa (pv 3) (aa (ee (v:=.ref _) rfl B.nO rfl) ae))) (aa (aZ (hZ (K:=K) rfl) rfl B.dq L2.cW (aa (pv 3) (aa (ee (v:=.ref _) rfl B.pC rfl) ae))) (aa (aZ (hZ (K:=K) rfl) rfl B.dq L2.cW (aa (pv 3) (aa (ee (v:=.ref _) rfl B.qV rfl) ae))) (aa (aZ (hZ (K:=K) rfl) rfl B.dq L2.cW (aa (pv 3) (aa (ee (v:=.ref _) rfl B.qW rfl) ae))) ae)))))))))
  (ak (aC (pv 2)))))),?_⟩
 walk_at "p";(try simp only [cJ]);try walk_at "dr2"
 walk_at "p";(try simp only [cJ]);try walk_at "dr2"
 have hY:=hX
 refine⟨_,_,hd.ins,jZ (by decide +kernel) (by decide +kernel),dx,kd,p,kvs,dw,ks,at0,ws,rfl,hd,hk,by omega,.told tr st λr H1 h g=>?_⟩
 cases r with
 | inl s=>
  refine hY _ _ ?_
  walk_at "q";(try simp only [cJ]);try walk_at "dr1"
  exact q _ _ H1 h g rfl
 | inr C=>
  have hc:=h.cls
  have mf:=DC B hc
  refine⟨mf.1,_,rfl,λea n_ea=>?_⟩
  generalize e_ea:upd _ ea _=H3
  obtain⟨g3,k3⟩:=cL e_ea n_ea
  clear e_ea
  refine⟨_,k3,mf.2,_,nQ B hc (by decide +kernel) (by decide +kernel),_,k3,mf.2,_,nQ B hc (by decide +kernel) (by decide +kernel),_,k3,mf.2,_,nQ B hc (by decide +kernel) (by decide +kernel),_,k3,mf.2,_,nQ B hc (by decide +kernel) (by decide +kernel),by decide,?_⟩
  intro o1 n_o1;generalize e0:upd _ o1 _=O1;obtain⟨q1,z1⟩:=cL e0 n_o1;clear e0
  refine hY _ _ ?_
  walk_at "q";(try simp only [cJ]);try walk_at "dr1"
  exact q _ _ O1 h (g.trans (g3.trans q1)) ⟨o1,rfl,z1⟩
def aV (K:PySem.W.Frag):Sp:=λvs H Q _=>∃(p:Int) (b c:Addr) (f:List Int) (a N m:Int) (w':Nat),vs=[.int (w':Int),.int p,.ref b,.ref c]∧w'<8∧az K H c [.int a,.int N,.int m]∧iT K H p b f a N m∧∀(r:Str⊕Str) (v:V) (H':Hp),eZ p f a N m w' r→aL H H'→Val H' r v→Q v H'
theorem vZ (B:Bi mg K w)(Cr:gz P w K mg base "_law_due" 69 ["way","p","f","cells"] (iJ K))(F:cD K "_law_wanted" "_law_wanted" gi f fd):bc P w K mg base cY 70 f fd ["way","p","f","cells"] (aV K):=by
 refine F.ok qh (λvs H Q E h=>?_) (λcdv A outer s H vs Q E hr h=>?_)
 ·obtain⟨p,b,c,f,a,N,m,w',rfl,_⟩:=h
  rfl
 obtain⟨p,b,c,f,a,N,m,w',rfl,hw,hC,A,q⟩:=h
 have S:=qh
 refine⟨_,((af (aB (i:=4) S.nd rfl (Or.inl rfl) jN)
  (af (zL rfl rfl rfl B.tK S.nd (i:=5) rfl rfl (λ_ _ _ hx=>(ak (aB (i:=4) S.nd rfl (Or.inl rfl) (Hv hx Cr hr rfl (aa (pv 0) (aa (pv 1) (aa (pv 2) (aa (pv 3) ae)))))))) (λ_=>(ak (aB (i:=4) S.nd rfl (Or.inl rfl) (dS (aa (aZ (hZ (K:=K) rfl) rfl B.dq L2.cW (aa (pv 5) (aa (ee (v:=.ref _) rfl B.nO rfl) ae))) (aa (aZ (hZ (K:=K) rfl) rfl B.dq L2.cW (aa (pv 5) (aa (ee (v:=.ref _) rfl B.pC rfl) ae))) (aa (aZ (hZ (K:=K) rfl) rfl B.dq L2.cW (aa (pv 5) (aa (ee (v:=.ref _) rfl B.qV rfl) ae))) (aa (aZ (hZ (K:=K) rfl) rfl B.dq L2.cW (aa (pv 5) (aa (ee (v:=.ref _) rfl B.qW rfl) ae))) ae)))))))))
  (ak (aC (pv 4)))))),?_⟩
 walk_at "p";(try simp only [iJ]);try walk_at "dr2"
 walk_at "p";(try simp only [iJ]);try walk_at "dr2"
 have hY:=hX
 refine⟨p,b,c,f,a,N,m,w',rfl,rfl,rfl,rfl,hw,hC,A,λr H1 h g=>?_⟩
 cases r with
 | inl s=>
  refine hY _ _ ?_
  walk_at "q";(try simp only [iJ]);try walk_at "dr1"
  exact q _ _ H1 h g rfl
 | inr C=>
  have hc:=h.cls
  have mf:=DC B hc
  refine⟨mf.1,_,rfl,λea n_ea=>?_⟩
  generalize e_ea:upd _ ea _=H3
  obtain⟨g3,k3⟩:=cL e_ea n_ea
  clear e_ea
  refine⟨_,k3,mf.2,_,nQ B hc (by decide +kernel) (by decide +kernel),_,k3,mf.2,_,nQ B hc (by decide +kernel) (by decide +kernel),_,k3,mf.2,_,nQ B hc (by decide +kernel) (by decide +kernel),_,k3,mf.2,_,nQ B hc (by decide +kernel) (by decide +kernel),by decide,?_⟩
  intro o1 n_o1;generalize e0:upd _ o1 _=O1;obtain⟨q1,z1⟩:=cL e0 n_o1;clear e0
  refine hY _ _ ?_
  walk_at "q";(try simp only [iJ]);try walk_at "dr1"
  exact q _ _ O1 h (g.trans (g3.trans q1)) ⟨o1,rfl,z1⟩
theorem rE:Nm "a":=⟨by decide +kernel,by decide +kernel,λc hc=>by revert c;decide +kernel⟩
theorem CM:Nm "b":=⟨by decide +kernel,by decide +kernel,λc hc=>by revert c;decide +kernel⟩
theorem Jc:Nm "u":=⟨by decide +kernel,by decide +kernel,λc hc=>by revert c;decide +kernel⟩
theorem u9 {A B:Prop}{a b:Str}(e:a=b)(h:B):if ¬V.str a=V.str b then A else B:=by
 rw [if_neg (not_not_intro (congrArg V.str e))]
 exact h
def lB (K:PySem.W.Frag)(H:Hp)(kd:Addr)(p:Int)(kvs:List (Key×V))(z row:Str)(f:List Int):Prop:=∀(Q:VK) (E:XK),(∀l H1,aL H H1→H l=none→H1 l=some (.lst (f.map V.int))→Q (.str "ok") (upd H1 kd (.dK (putK kvs (Sum.inr z) (.ref l)))))→∃(dw:Str) (ks:List Kd) (a:Addr) (ws:List Str),row=Str.join (Str.ofString " ") (dw::ws)∧(Str.join (Str.ofString " ") (dw::ws)).length≤2000∧j8 K H kd p kvs Q E dw ks a ws
section
variable {H:Hp}{kd:Addr}{p:Int}{kvs:List (Key×V)}{f:List Int}
theorem JT (a b c:Str):Str.join (Str.ofString " ") [a,b,c]=a++Str.ofString " "++(b++Str.ofString " "++c):=rfl
theorem pW {z:Str}(hz:Nm z)(hf:0<f.length∧f.length≤13)(bf:Dr.bX f 190):lB K H kd p kvs z (Str.join (Str.ofString " ") ["poly",z,Tx.shown f]) f:=by
 intro Q E q
 have b60:=kN bf
 have h0:f≠[]:=λz=>by rw [z] at hf;exact absurd hf.1 (by decide)
 have ls:(Tx.shown f).length≤868:=Tx.ue (ms:=f) (by omega) b60
 refine⟨_,_,_,_,rfl,?_,.made .fv (λy hy=>?_) (.cons (.new hz) (.cons (Ic h0 hf.2 b60) .nil)) hf.2 b60 (λt vs H1 Q' g rl k q'=>?_) q⟩
 ·rw [JT]
  have l1:=hz.most
  exact Nat.le_trans (eN (eN (show (Str.ofString "poly").length≤4 by decide +kernel) (show (Str.ofString " ").length≤1 by decide +kernel)) (eN (eN l1 (show (Str.ofString " ").length≤1 by decide +kernel)) ls)) (by decide)
 ·simp only [List.mem_cons,List.not_mem_nil,or_false] at hy
  rcases hy with rfl|rfl
  ·exact vY hz
  ·exact Tx.C1 _
 ·obtain⟨v1,_,rfl,r1,rl⟩:=rl.inv
  obtain⟨v2,_,rfl,r2,rl⟩:=rl.inv
  obtain rfl:=rl.pN
  obtain⟨ms,c,rfl,e,nc,kc⟩:=r2.FF
  rw [Tx.vy h0 hf.2 b60] at e
  cases e
  exact⟨p,t,_,_,_,rfl,az.of k,q' _ H1 (aL.refl _) nc kc⟩
theorem vX {ws:List Str}(h:ws.all (λy=>!y.cps.toList.contains 32)=true):∀y,y∈ws→32∉y.cps.toList:=λy hy=>by
 have:=List.all_eq_true.mp h y hy
 simpa using this
theorem EA {b u:Addr}(hb:dB kvs (Sum.inr (Str.ofString "b"))=some (.ref b))(hu:dB kvs (Sum.inr (Str.ofString "u"))=some (.ref u))(kb:az K H b (f.map V.int))(ku:az K H u ([1].map V.int))(hf:0<f.length∧f.length≤13)(bf:Dr.bX f 190):lB K H kd p kvs "a" "times a b u" f:=by
 intro Q E q
 refine⟨"times",_,_,["a","b","u"],by decide +kernel,by decide +kernel,.made .times (vX (by decide +kernel)) (.cons (.new rE) (.cons (.name CM hb) (.cons (.name Jc hu) .nil))) hf.2 (kN bf) (λt vs H1 Q' g rl k q'=>?_) q⟩
 obtain⟨v1,_,rfl,r1,rl⟩:=rl.inv
 obtain⟨v2,_,rfl,r2,rl⟩:=rl.inv
 obtain⟨v3,_,rfl,r3,rl⟩:=rl.inv
 obtain rfl:=rl.pN
 obtain rfl:=Option.some.inj (r2.nh.symm.trans hb)
 obtain rfl:=Option.some.inj (r3.nh.symm.trans hu)
 refine⟨p,t,b,u,_,f,[1],rfl,az.of k,g.seq kb,g.seq ku,⟨hf.1,by decide,by simp;omega⟩,bf,(λx hx=>by rw [List.mem_singleton.mp hx];exact fM 1 (by decide) (by decide)),λl r H2 hr nl g2 kl=>?_⟩
 have e:r=f:=Dr.mI (by have:=hr.len;simp at this;omega) λx=>by rw [hr.ev];simp [Dr.aA]
 rw [e] at kl
 exact q' l H2 g2 (none_of g nl) kl
theorem FQ {b:Addr}(hb:dB kvs (Sum.inr (Str.ofString "b"))=some (.ref b))(kb:az K H b (f.map V.int))(hp:2≤p∧p<1000)(hf:0<f.length∧f.length≤13)(bf:Dr.bX f 190):lB K H kd p kvs "a" "seen a b 0 0" f:=by
 intro Q E q
 have t0:Tx.tx 0=Str.ofString "0":=by decide +kernel
 refine⟨"seen",_,_,["a","b",Tx.tx 0,Tx.tx 0],by rw [t0];decide +kernel,by rw [t0];decide +kernel,.made .seen (by rw [t0];exact vX (by decide +kernel)) (.cons (.new rE) (.cons (.name CM hb) (.cons (rX (by decide +kernel)) (.cons (AN (by decide)) .nil)))) hf.2 (kN bf) (λt vs H1 Q' g rl k q'=>?_) q⟩
 obtain⟨v1,_,rfl,r1,rl⟩:=rl.inv
 obtain⟨v2,_,rfl,r2,rl⟩:=rl.inv
 obtain⟨v3,_,rfl,r3,rl⟩:=rl.inv
 obtain⟨v4,_,rfl,r4,rl⟩:=rl.inv
 obtain rfl:=rl.pN
 obtain rfl:=Option.some.inj (r2.nh.symm.trans hb)
 obtain rfl:=r3.ky (by decide +kernel)
 obtain rfl:=r4.nS (by decide)
 refine⟨p,t,b,_,f,0,0,190,190,rfl,az.of k,g.seq kb,by omega,hp,by decide,bf,fM 0 (by decide) (by decide),by decide,λl r H2 hr nl g2 kl=>?_⟩
 have e:r=f:=Dr.mI hr.len λx=>by rw [hr.ev];simp
 rw [e] at kl
 exact q' l H2 g2 (none_of g nl) kl
theorem Ez {b:Addr}(hb:dB kvs (Sum.inr (Str.ofString "b"))=some (.ref b))(kb:az K H b (f.map V.int))(hf:0<f.length∧f.length≤13)(bf:Dr.bX f 180):lB K H kd p kvs "a" "slope a b" (Dr.d7 f):=by
 intro Q E q
 have bs:Dr.bX (Dr.d7 f) 190:=λx hx=>(sL ⟨hf.1,by omega⟩ bf x hx).mono (by decide)
 refine⟨"slope",_,_,["a","b"],by decide +kernel,by decide +kernel,.made .GL (vX (by decide +kernel)) (.cons (.new rE) (.cons (.name CM hb) .nil)) (by rw [Dr.jg hf.1];omega) (kN bs) (λt vs H1 Q' g rl k q'=>?_) q⟩
 obtain⟨v1,_,rfl,r1,rl⟩:=rl.inv
 obtain⟨v2,_,rfl,r2,rl⟩:=rl.inv
 obtain rfl:=rl.pN
 obtain rfl:=Option.some.inj (r2.nh.symm.trans hb)
 exact⟨p,t,b,_,f,180,rfl,az.of k,g.seq kb,by omega,bf,by decide,λl H2 nl g2 kl=>q' l H2 g2 (none_of g nl) kl⟩
end
def Sk (kd:Addr)(H H':Hp):Prop:=∀b o,b≠kd→H b=some o→H' b=some o
theorem Sk.refl (kd:Addr)(H:Hp):Sk kd H H:=λ_ _ _ h=>h
theorem Sk.trans {kd:Addr}{H H1 H2:Hp}(h:Sk kd H H1)(g:Sk kd H1 H2):Sk kd H H2:=λb o n e=>g b o n (h b o n e)
theorem Sk.of {kd:Addr}{H H':Hp}(g:aL H H'):Sk kd H H':=λb o _ e=>g b o e
theorem Sk.upd {kd:Addr}{H:Hp}{o:HO}:Sk kd H (L2.upd H kd o):=λb o n e=>by rw [aI n];exact e
theorem ni {H:Hp}{a kd:Addr}{xs:List V}{kvs:List (Key×V)}(h:H a=some (.lst xs))(hk:H kd=some (.dK kvs)):a≠kd:=λz=>by
 rw [z,hk] at h
 cases h
theorem Sk.lst {kd a:Addr}{H H':Hp}{xs:List V}{kvs:List (Key×V)}(g:Sk kd H H')(hk:H kd=some (.dK kvs))(h:H a=some (.lst xs)):H' a=some (.lst xs):=g _ _ (ni h hk) h
theorem Sk.seq {K:PySem.W.Frag}{kd a:Addr}{H H':Hp}{xs:List V}{kvs:List (Key×V)}(g:Sk kd H H')(hk:H kd=some (.dK kvs))(h:az K H a xs):az K H' a xs:=by
 rcases h with (z|⟨o,z⟩)|z
 ·exact .inl (.inl (g _ _ (ni z hk) z))
 ·refine .inl (.inr ⟨o,g _ _ (λe=>?_) z⟩)
  rw [e,hk] at z
  cases z
 ·exact .inr z
theorem fI.put {K:PySem.W.Frag}{H:Hp}{d dx kd:Addr}{p:Int}{kvs kvs':List (Key×V)}(h:fI K H d dx kd p kvs):fI K (upd H kd (.dK kvs')) d dx kd p kvs':=by
 refine⟨?_,aS⟩
 rw [aI λz=>?_]
 ·exact h.ins
 ·have:=h.ins
  rw [z,h.kept] at this
  cases this
theorem uu (kvs:List (Key×V))(k:Key)(v:V):(putK kvs k v).length≤kvs.length+1:=by
 unfold putK
 split
 ·rw [List.length_map];omega
 ·rw [List.length_append];exact Nat.le_refl _
structure Fx (K:PySem.W.Frag)(H:Hp)(la lp l0 l1 lc:Addr)(ns f0 f1:List Int)(a N m:Int):Prop where
 s:az K H la (ns.map V.int)
 p:H lp=some (.lst [.ref l0,.ref l1])
 k0:H l0=some (.lst (f0.map V.int))
 k1:H l1=some (.lst (f1.map V.int))
 c:H lc=some (.lst [.int a,.int N,.int m])
theorem Fx.sk {H H':Hp}{kd la lp l0 l1 lc:Addr}{ns f0 f1:List Int}{a N m:Int}{kvs:List (Key×V)}(h:Fx K H la lp l0 l1 lc ns f0 f1 a N m)(hk:H kd=some (.dK kvs))(g:Sk kd H H'):Fx K H' la lp l0 l1 lc ns f0 f1 a N m:=⟨g.seq hk h.s,g.lst hk h.p,g.lst hk h.k0,g.lst hk h.k1,g.lst hk h.c⟩
theorem Fx.at {H:Hp}{la lp l0 l1 lc:Addr}{ns f0 f1:List Int}{a N m:Int}(h:Fx K H la lp l0 l1 lc ns f0 f1 a N m)(lf0:2≤f0.length∧f0.length≤7)(lf1:2≤f1.length∧f1.length≤7)(bf0:Dr.bX f0 170)(bf1:Dr.bX f1 170){i:Nat}(hi:i<2):∃(lf:Addr) (f:List Int),iX [V.ref l0,V.ref l1] (i:Int)=some (.ref lf)∧H lf=some (.lst (f.map V.int))∧(2≤f.length∧f.length≤7)∧Dr.bX f 170:=by
 match i,hi with
 | 0,_=>exact⟨l0,f0,aM (j:=0) rfl,h.k0,lf0,bf0⟩
 | 1,_=>exact⟨l1,f1,aM (j:=1) rfl,h.k1,lf1,bf1⟩
theorem lB.go {H:Hp}{d dx kd:Addr}{p:Int}{kvs:List (Key×V)}{z row:Str}{f:List Int}{Q:VK}{E:XK}(h:lB K H kd p kvs z row f)(dk:fI K H d dx kd p kvs)(hk:kvs.length<900)(q:∀l H1,aL H H1→H l=none→H1 l=some (.lst (f.map V.int))→Q (.str "ok") (upd H1 kd (.dK (putK kvs (Sum.inr z) (.ref l))))) :
    ∃(dx kd:Addr) (p:Int) (kvs:List (Key×V)) (dw:Str) (ks:List Kd) (a:Addr) (ws:List Str),row=Str.join (Str.ofString " ") (dw::ws)∧fI K H d dx kd p kvs∧kvs.length<900∧(Str.join (Str.ofString " ") (dw::ws)).length≤2000∧j8 K H kd p kvs Q E dw ks a ws:=by
  obtain⟨dw,ks,a,ws,e,l,D⟩:=h Q E q
  exact⟨dx,kd,p,kvs,dw,ks,a,ws,e,dk,hk,l,D⟩
theorem Kw (s:Str)(h:s.length≤2000):Txt.slice (Str.ofString "poly a "++s) (some 7) none=s:=by
 refine PyProof.Rows.str_of_list ?_
 have l7:(Str.ofString "poly a ").length=7:=by decide +kernel
 rw [Tx.B3 (by decide) (by rw [ja];omega)]
 show ((Str.ofString "poly a ").cps++s.cps).toList.drop 7=_
 rw [Array.toList_append,List.drop_left' (by rw [Array.length_toList];exact l7)]
theorem HC (s:Str):¬Str.ofString "poly a "++s=Str.ofString "slope a b":=λe=>by
 have h:((Str.ofString "poly a ").cps++s.cps).toList.take 1=(Str.ofString "slope a b").cps.toList.take 1:=congrArg (λx:Str=>x.cps.toList.take 1) e
 rw [Array.toList_append,List.take_append_of_le_length (by decide +kernel)] at h
 revert h
 decide +kernel
theorem KG {H:Hp}{a b:Addr}{Q:VK}(bs:List Bool)(h:az K H a (bs.map V.bl))(h':az K H b (bs.map V.bl))(q:Q (.bl false) H):zM K true (.ref a) (.ref b) H Q:=by
 obtain⟨d,e,h1,h2,s1,s2,q'⟩:=Ky (Q:=λv H'=>v = .bl true∧H'=H) bs h h' ⟨rfl,rfl⟩
 refine⟨d,e,h1,h2,s1,s2,?_⟩
 rw [if_neg (by decide)] at q'
 rw [if_pos rfl,V.bl.inj q'.1]
 exact q
theorem Je (B:Bi mg K w)(Cq:Ik P w K mg base (cq K "Desk") 2 ["self","p"] (bJ K))(r9:Met P w K mg base (eh P w) (cq K "Desk") "say" 70 ["self","row"] (cJ K))(dE:Def P w K mg base "_law_cell" 1 ["script","k"] (aU K))(yB:Def P w K mg base "_law_prime" 1 ["cell"] (bo K))(tO:Def P w K mg base "_law_poly" 2 ["p","script","start"] (bF K))(Cs:Def P w K mg base "_law_row" 1 ["way","cells"] (bO K))(AX:Def P w K mg base "_law_said" 71 ["desk","row"] (bG K))(xu:Def P w K mg base "_law_wanted" 70 ["way","p","f","cells"] (aV K))(F:cD K "law" "law" mD f fd):bc P w K mg base cY 72 f fd ["script"] (C3 K):=by
 refine F.ok Gj (λvs H Q E h=>?_) (λcdv A outer s H vs Q E hr h=>?_)
 ·obtain⟨a,ns,rfl,_⟩:=h
  rfl
 obtain⟨la,ns,rfl,hS,hl,hbits,q⟩:=h
 have S:=Gj
 refine⟨_,((af (aB (i:=1) S.nd rfl (Or.inl rfl) (aD yB hr rfl (aa (aD dE hr rfl (aa (pv 0) (aa ag ae))) ae)))
  (af (aB (i:=2) S.nd rfl (Or.inl rfl) (dS (aa (aD tO hr rfl (aa (pv 1) (aa (pv 0) (aa ag ae)))) (aa (aD tO hr rfl (aa (pv 1) (aa (pv 0) (aa ag ae)))) ae))))
  (af (aB (i:=3) S.nd rfl (Or.inl rfl) (av cp (aD dE hr rfl (aa (pv 0) (aa ag ae))) ag))
  (af (lh (bN (aF kz (pv 1) ag (aQ _)) (ak (aB (i:=3) S.nd rfl (Or.inl rfl) (av cp (aD dE hr rfl (aa (pv 0) (aa ag ae))) ag))) aR))
  (af (lh (bN (aF kz (pv 1) ag (aQ _)) (ak (aB (i:=3) S.nd rfl (Or.inl rfl) (av cp (aD dE hr rfl (aa (pv 0) (aa ag ae))) ag))) aR))
  (af (aB (i:=4) S.nd rfl (Or.inl rfl) (dS (aa (av ft (av cp (aD dE hr rfl (aa (pv 0) (aa ag ae))) ag) ag) (aa (pv 3) (aa (av ft (av cp (aD dE hr rfl (aa (pv 0) (aa ag ae))) ag) ag) ae)))))
  (af (aB (i:=5) S.nd rfl (Or.inl rfl) (av cp (aD dE hr rfl (aa (pv 0) (aa ag ae))) ag))
  (af (aB (i:=6) S.nd rfl (Or.inl rfl) (JY Cq hr rfl B.Iz (aa (pv 1) ae)))
  (af (fK PassesOwn.never rfl (h8 rfl B.fO (aa ag ae)) (cI (i:=7) S.nd rfl (Or.inl rfl)) (af (aB (i:=8) S.nd rfl (Or.inr rfl) (ba bK (pv 2) (pv 7) (λ_ _=>rfl)))
  (af (lh (bN (PW.pt (vv (aF cP (pv 7) ag (aQ _)) (vv (aF cP (av cp (av eD (aD dE hr rfl (aa (pv 0) (aa ag ae))) ag) ag) ag (aQ _)) (wb (aF my (nq oU B.d9 r9 hr (pv 6) (aa bH ae)) bH (aQ _)))))) (ak (aC mz)) aR))
  (af (aB (i:=9) S.nd rfl (Or.inl rfl) (av cO bH (jf PySem.F.plainAttrs_str PySem.F.slot_str_join PySem.F.type_str_join oS bH (aa (eU [] [] rfl rfl trivial trivial rfl rfl (by decide) (by decide) rfl rfl (by decide) (d3 (pv 8)) (λ_ _ _ _=>dG) (λ_ _ _ _=>(cb cj rfl B.ez L2.dD (aa (pv 0) ae)))) ae))))
  (af (lh (bN (aF cP (pv 7) ag (aQ _)) (af (bN (PW.pt (jh (aF my (nq oU B.d9 r9 hr (pv 6) (aa (av cO bH (nt ED (pv 9) (oZ ag) oY)) ae)) bH (aQ _)) (jO (aF my (nq oU B.d9 r9 hr (pv 6) (aa bH ae)) bH (aQ _))))) (ak (aC mz)) aR)
  (af (aB (i:=9) S.nd rfl (Or.inl rfl) (ba bK (dS (aa (pv 9) (aa bH (aa bH (aa bH ae))))) (av cp (av eD (aD dE hr rfl (aa (pv 0) (aa ag ae))) ag) ag) (λ_ _=>rfl)))
  (ak (bN (aF cP (pv 9) bH (aQ _)) (ak (aB (i:=8) S.nd rfl (Or.inr rfl) (eU [8] ["f"] rfl rfl ⟨rfl,trivial⟩ ⟨rfl,rfl,rfl,rfl,trivial⟩ rfl rfl (by decide) (by decide) rfl rfl (by decide) (nX rfl B.fO (aa ag (aa (aZ cv rfl B.eI PySem.boot_len (aa (pv 8) ae)) ae))) (λ_ _ _ _=>dG) (λ_ _ _ _=>(av cA (pv 0) (ba (yQ (K:=K) rfl) (pv 1) (pv 0) (λ_ _=>rfl))))))) aR)))) aR))
  (af (bN (aF my (nq oU B.d9 r9 hr (pv 6) (aa (pv 9) ae)) bH (aQ _)) (ak (aC mz)) aR)
  (ak (fK PassesOwn.never rfl (h8 rfl B.fO (aa ag ae)) (cI (i:=10) S.nd rfl (Or.inl rfl)) (af (aB (i:=11) S.nd rfl (Or.inl rfl) (av cp (av cS (pv 5) (av cA (pv 10) (av cS ag (av cA (av cp (pv 5) ag) ag)))) ag))
  (ak (bN (aF (Jl my (Jk hr.units)) (aD AX hr rfl (aa (pv 6) (aa (aD Cs hr rfl (aa (pv 11) (aa (pv 4) ae))) ae))) (aD xu hr rfl (aa (pv 11) (aa (pv 1) (aa (pv 8) (aa (pv 4) ae))))) (aQ _)) (ak (aC mz)) aR)))))))))))
  (ak (aC mz)))))))))))),?_⟩
 walk_at "p";(try simp only [bJ,cJ,aU,bo,bF,bO,bG,aV]);try walk_at "dr2"
 refine⟨ns,hS,hl,λp H1 hpp g1=>?_⟩
 have p2:=Dr.cy hpp
 have hp:2≤p∧p<1000:=by ((try clear hl);omega)
 walk_at "p";(try simp only [bJ,cJ,aU,bo,bF,bO,bG,aV]);try walk_at "dr2"
 refine⟨hpp,ns,g1.seq hS,hl,λl0 f0 H2 lf0 bf0 n0 g2 k2=>⟨hpp,ns,g2.seq (g1.seq hS),hl,λl1 f1 H3 lf1 bf1 n1 g3 k3=>⟨by decide,?_⟩⟩⟩
 intro lp n_lp;generalize e0:upd _ lp _=H4;obtain⟨g4,k4⟩:=cL e0 n_lp;clear e0
 have G4:=g1.trans (g2.trans (g3.trans g4))
 have k2:=g4 _ _ (g3 _ _ k2)
 have k3:=g4 _ _ k3
 clear g1 g2 g3 g4 n0 n1 n_lp
 walk_at "p";(try simp only [bJ,cJ,aU,bo,bF,bO,bG,aV]);try walk_at "dr2"
 refine⟨ns,G4.seq hS,hl,?_⟩
 have m3:=dO (dQ ns 1) (show (0:Int)<3 by decide)
 have m6:=dO (dQ ns 1) (show (0:Int)<6 by decide)
 have m13:=dO (dQ ns 1) (show (0:Int)<13 by decide)
 (first | refine hX _ _ ?_ | skip);refine cB ?_
 obtain⟨R,hR⟩:∃R:St→Hp→Prop,∀σ' H5,R σ' H5↔(H5=H4∧∃N:Int,0≤N∧N≤5∧σ'=[some (.ref la),some (.int p),some (.ref lp),some (.int N),none,none,none,none,none,none,none,none]):=⟨_,λ_ _=>Iff.rfl⟩
 (first | refine hX _ _ ?_ | skip);refine pP R ?_ ?_
 ·walk_at "q";(try simp only [bJ,cJ,aU,bo,bF,bO,bG,aV]);try walk_at "dr1"
  exact cG (λc=>⟨ns,G4.seq hS,hl,(hR _ _).mpr ⟨rfl,_,by (try clear c hl hp k2 k3 k4 lf0 lf1 m13 m3 p2);omega,by (try clear c hl hp k2 k3 k4 lf0 lf1 m13 m3 p2);omega,rfl⟩⟩) (λc=>(hR _ _).mpr ⟨rfl,_,by (try clear c hl hp k2 k3 k4 lf0 lf1 m13 m6 p2);omega,by (try clear c hl hp k2 k3 k4 lf0 lf1 m13 m6 p2);omega,rfl⟩)
 intro σ' H5 z
 refine BC λX hX=>?_;obtain⟨rfl,N0,hN0,hN1,rfl⟩:=(hR _ _).mp z;refine hX ?_;clear hX X
 clear hR z
 (first | refine hX _ _ ?_ | skip);refine cB ?_
 obtain⟨R,hR⟩:∃R:St→Hp→Prop,∀σ' H6,R σ' H6↔(H6=H5∧∃N:Int,0≤N∧N≤12∧σ'=[some (.ref la),some (.int p),some (.ref lp),some (.int N),none,none,none,none,none,none,none,none]):=⟨_,λ_ _=>Iff.rfl⟩
 (first | refine hX _ _ ?_ | skip);refine pP R ?_ ?_
 ·walk_at "q";(try simp only [bJ,cJ,aU,bo,bF,bO,bG,aV]);try walk_at "dr1"
  exact cG (λc=>⟨ns,G4.seq hS,hl,(hR _ _).mpr ⟨rfl,_,by (try clear c hN0 hN1 hl hp k2 k3 k4 lf0 lf1 m3 m6 p2);omega,by (try clear c hN0 hN1 hl hp k2 k3 k4 lf0 lf1 m3 m6 p2);omega,rfl⟩⟩) (λc=>(hR _ _).mpr ⟨rfl,_,by (try clear c hN1 hl hp k2 k3 k4 lf0 lf1 m13 m3 m6 p2);omega,by (try clear c hl hp k2 k3 k4 lf0 lf1 m13 m3 m6 p2);omega,rfl⟩)
 intro σ' H6 z
 refine BC λX hX=>?_;obtain⟨rfl,N,hN0',hN1',rfl⟩:=(hR _ _).mp z;refine hX ?_;clear hX X
 clear hR z hN0 hN1 m3 m6 m13
 have hN:0≤N∧N≤60:=by ((try clear hl hp k2 k3 k4 lf0 lf1 p2);omega)
 have m401:=dO (dQ ns 2) (show (0:Int)<401 by decide)
 have m30:=dO (dQ ns 3) (show (0:Int)<30 by decide)
 have m8:=dO (dQ ns 4) (show (0:Int)<8 by decide)
 walk_at "p";(try simp only [bJ,cJ,aU,bo,bF,bO,bG,aV]);try walk_at "dr2"
 refine⟨ns,G4.seq hS,hl,ns,G4.seq hS,hl,by decide,?_⟩
 have ha:-200≤dQ ns 2%401-200∧dQ ns 2%401-200≤200:=by ((try clear hN hN0' hN1' hl hp k2 k3 k4 lf0 lf1 m30 m8 p2);omega)
 have hm:-200≤dQ ns 3%30-1∧dQ ns 3%30-1≤200:=by ((try clear hN hN0' hN1' ha hl hp k2 k3 k4 lf0 lf1 m401 m8 p2);omega)
 generalize dQ ns 2%401-200=a at ha ⊢
 generalize dQ ns 3%30-1=m at hm ⊢
 intro lc n_lc;generalize e0:upd _ lc _=H7;obtain⟨g7,k7⟩:=cL e0 n_lc;clear e0
 have G7:=G4.trans g7
 walk_at "p";(try simp only [bJ,cJ,aU,bo,bF,bO,bG,aV]);try walk_at "dr2"
 refine⟨ns,G7.seq hS,hl,?_⟩
 generalize dQ ns 4%8=fs at m8 ⊢
 walk_at "p";(try simp only [bJ,cJ,aU,bo,bF,bO,bG,aV]);try walk_at "dr2"
 intro d dx nd1 ndx ned
 refine⟨dx,aS,hpp,λkd H12 nek nk kI kD old=>?_⟩
 rw [aI nek] at nk
 have nkx:kd≠dx:=λz=>by rw [z,aS] at nk;cases nk
 rw [aI nkx] at nk
 have g12:aL H7 H12:=λb o hb=>by
  have h1:b≠d:=λz=>by rw [z,nd1] at hb;cases hb
  have h2:b≠dx:=λz=>by rw [z,ndx] at hb;cases hb
  have h3:b≠kd:=λz=>by rw [z,nk] at hb;cases hb
  rw [old b h1 h3,aI h1,aI h2]
  exact hb
 have dk0:fI K H12 d dx kd p []:=⟨kI,kD⟩
 have fx0:Fx K H12 la lp l0 l1 lc ns f0 f1 a N m:=⟨(G7.trans g12).seq hS,g12 _ _ (g7 _ _ k4),g12 _ _ (g7 _ _ k2),g12 _ _ (g7 _ _ k3),g12 _ _ k7⟩
 clear old nd1 ndx ned nek nk nkx kI kD k2 k3 k4 k7 g12 g7 G7 G4
 walk_at "p";(try simp only [bJ,cJ,aU,bo,bF,bO,bG,aV]);try walk_at "dr2"
 refine⟨by decide,by decide,?_⟩
 obtain⟨Pv,hPv⟩:∃Pv:Nat→St→Hp→Prop,∀i σ H1,Pv i σ H1↔(Fx K H1 la lp l0 l1 lc ns f0 f1 a N m∧∃(kvs:List (Key×V)) (t7 t8 t9 t10 t11:Option V),fI K H1 d dx kd p kvs∧kvs.length≤3*i∧(i=1→∃v,dB kvs (Sum.inr (Str.ofString "a"))=some v)∧σ=[some (.ref la),some (.int p),some (.ref lp),some (.int N),some (.ref lc),some (.int fs),some (.ref d),t7,t8,t9,t10,t11]):=⟨_,λ_ _ _=>Iff.rfl⟩
 (first | refine hX _ _ ?_ | skip);refine forR Pv ((hPv _ _ _).mpr ⟨fx0,[],none,none,none,none,none,dk0,Nat.le_refl _,(λz=>absurd z (by decide)),rfl⟩) ?_ ?_
 case refine_2=>
  intro σ H1 z
  obtain⟨_,kvs,t7,t8,t9,t10,t11,_,_,_,rfl⟩:=(hPv _ _ _).mp z
  walk_at "q";(try simp only [bJ,cJ,aU,bo,bF,bO,bG,aV]);try walk_at "dr1"
  exact q H1
 intro i σ H1 hi z
 refine BC λX hX=>?_;obtain⟨fx,kvs,t7,t8,t9,t10,t11,dk,hk,hv,rfl⟩:=(hPv _ _ _).mp z;refine hX ?_;clear hX X
 have hi:i<2:=hi
 obtain⟨lf,f,elf,kf,lf7,bf⟩:=fx.at lf0 lf1 bf0 bf1 hi
 walk_at "p";(try simp only [bJ,cJ,aU,bo,bF,bO,bG,aV]);try walk_at "dr2"
 rw [Int.zero_add]
 refine⟨_,az.of fx.p,_,elf,?_⟩
 (first | refine hX _ _ ?_ | skip);refine cB ?_
 obtain⟨R,hR⟩:∃R:St→Hp→Prop,∀σ' H2,R σ' H2↔(Sk kd H1 H2∧∃kvs2:List (Key×V),fI K H2 d dx kd p kvs2∧kvs2.length≤3*i∧σ'=[some (.ref la),some (.int p),some (.ref lp),some (.int N),some (.ref lc),some (.int fs),some (.ref d),some (.int (i:Int)),some (.ref lf),t9,t10,t11]):=⟨_,λ_ _=>Iff.rfl⟩
 (first | refine hX _ _ ?_ | skip);refine pP R ?_ ?_
 ·walk_at "q";(try simp only [bJ,cJ,aU,bo,bF,bO,bG,aV]);try walk_at "dr1"
  refine cG (λc=>?_) (λc=>(hR _ _).mpr ⟨Sk.refl kd H1,kvs,dk,hk,rfl⟩)
  refine⟨ns,fx.s,hl,iY ⟨by decide,by decide⟩,cG (λ_=>?_) (λ_=>(hR _ _).mpr ⟨Sk.refl kd H1,kvs,dk,hk,rfl⟩)⟩
  obtain⟨v,hv⟩:=hv (by (try clear elf hN hN0' hN1' ha hi hk hl hm hp k2 k3 kf lf0 lf1 lf7 m30 m401 m8 n_lc p2);omega)
  refine⟨_,_,dk.ins,jZ (by decide +kernel) (by decide +kernel),dx,kd,p,kvs,"drop",_,_,["a"],by decide +kernel,dk,by (try clear elf hN hN0' hN1' ha hi hl hm hp hv k2 k3 kf lf0 lf1 lf7 m30 m401 m8 n_lc p2);omega,by decide +kernel,.drop rE hv λH3 g3=>⟨rfl,u9 rfl ?_⟩⟩
  exact (hR _ _).mpr ⟨(Sk.of g3).trans Sk.upd,_,(dk.same g3).put,Nat.le_trans (yJ _ _) hk,rfl⟩
 intro σ' H2 z
 refine BC λX hX=>?_;obtain⟨sk2,kvs2,dk2,hk2,rfl⟩:=(hR _ _).mp z;refine hX ?_;clear hX X
 clear hR z
 have fx:=fx.sk dk.kept sk2
 have kf:=sk2.lst dk.kept kf
 have bf190:Dr.bX f 190:=λx hx=>(bf x hx).mono (by decide)
 have b60:=kN bf190
 have lsh:(Tx.shown f).length≤868:=Tx.ue (ms:=f) (by (try clear elf hN hN0' hN1' ha hi hk hk2 hl hm hp k2 k3 kf lf0 lf1 m30 m401 m8 n_lc p2);omega) b60
 walk_at "p";(try simp only [bJ,cJ,aU,bo,bF,bO,bG,aV]);try walk_at "dr2"
 refine⟨rfl,⟨_,az.of kf⟩,nR (by (try clear elf hN hN0' hN1' ha hi hk hk2 hl hm hp k2 k3 kf lf0 lf1 lsh m30 m401 m8 n_lc p2);omega) (az.of kf) (λx hx=>Nat.lt_of_lt_of_le (b60 x hx) (by decide +kernel)) (λx H Q hx q=>?_) λl3 n3=>?_⟩
 ·walk_at "q";(try simp only [bJ,cJ,aU,bo,bF,bO,bG,aV]);try walk_at "dr1"
  exact⟨fB hx,q⟩
 have g3:=eC n3 (o:=HO.lst ((f.map Tx.tx).map V.str))
 have k3:upd H2 l3 (HO.lst ((f.map Tx.tx).map V.str)) l3=some (HO.lst ((f.map Tx.tx).map V.str)):=aS
 generalize upd H2 l3 (HO.lst ((f.map Tx.tx).map V.str))=H3 at g3 k3 ⊢
 refine⟨_,l3,f.map Tx.tx,rfl,rfl,az.of k3,Tx.Hj (by (try clear elf hN hN0' hN1' ha hi hk hk2 hl hm hp k2 k3 kf lf0 lf1 lsh m30 m401 m8 n3 n_lc p2);omega) b60,_,rfl,gv (m:=7) (n:=868) (by decide +kernel) lsh (by decide),?_⟩
 have fx:=fx.sk dk2.kept (Sk.of g3)
 have kf:=g3 _ _ kf
 have dk3:=dk2.same g3
 clear k3 n3
 rw [show Txt.join (Str.ofString ",") (f.map Tx.tx)=Tx.shown f from rfl]
 have eP:Str.ofString "poly a "++Tx.shown f=Str.join (Str.ofString " ") ["poly","a",Tx.shown f]:=Jx (by decide +kernel) _
 (first | refine hX _ _ ?_ | skip);refine cB ?_
 obtain⟨R,hR⟩:∃R:St→Hp→Prop,∀σ' H4,R σ' H4↔(Sk kd H3 H4∧∃(kvs3:List (Key×V)) (row:Str) (lf':Addr) (f':List Int),fI K H4 d dx kd p kvs3∧kvs3.length+1≤3*(i+1)∧lB K H4 kd p kvs3 "a" row f'∧H4 lf'=some (.lst (f'.map V.int))∧(0<f'.length∧f'.length≤13)∧Dr.bX f' 190∧σ'=[some (.ref la),some (.int p),some (.ref lp),some (.int N),some (.ref lc),some (.int fs),some (.ref d),some (.int (i:Int)),some (.ref lf'),some (.str row),t10,t11]):=⟨_,λ_ _=>Iff.rfl⟩
 (first | refine hX _ _ ?_ | skip);refine pP R ?_ ?_
 ·walk_at "p";(try simp only [bJ,cJ,aU,bo,bF,bO,bG,aV]);try walk_at "dr2"
  refine cG (λc=>?_) (λc=>?_)
  rotate_left
  ·try try walk_at "dr1";(try simp only [bJ,cJ,aU,bo,bF,bO,bG,aV]);try walk_at "dr1"
   refine (hR _ _).mpr ⟨Sk.refl kd H3,kvs2,_,lf,f,dk3,by (try clear c eP elf hN hN0' hN1' ha hi hk hl hm hp k2 k3 kf lf0 lf1 lf7 lsh m30 m401 m8 n_lc p2);omega,?_,kf,by (try clear c eP elf hN hN0' hN1' ha hi hk hk2 hl hm hp k2 k3 kf lf0 lf1 lsh m30 m401 m8 n_lc p2);omega,bf190,rfl⟩
   rw [eP]
   exact pW rE (by (try clear c eP elf hN hN0' hN1' ha hi hk hk2 hl hm hp k2 k3 kf lf0 lf1 lsh m30 m401 m8 n_lc p2);omega) bf190
  have fin:∀(H6:Hp) (kvs6:List (Key×V)) (row:Str) (lf':Addr) (f':List Int),Sk kd H3 H6→fI K H6 d dx kd p kvs6→kvs6.length≤5→lB K H6 kd p kvs6 "a" row f'→H6 lf'=some (.lst (f'.map V.int))→(0<f'.length∧f'.length≤13)→Dr.bX f' 190→R [some (.ref la),some (.int p),some (.ref lp),some (.int N),some (.ref lc),some (.int fs),some (.ref d),some (.int (i:Int)),some (.ref lf'),some (.str row),t10,t11] H6:=λH6 kvs6 row lf' f' a1 a2 a3 a4 a5 a6 a7=>(hR _ _).mpr ⟨a1,kvs6,row,lf',f',a2,by (try clear a5 a6 eP elf hN hN0' hN1' ha hi hk hk2 hl hm hp k2 k3 kf lf0 lf1 lf7 lsh m30 m401 m8 n_lc p2);omega,a4,a5,a6,a7,rfl⟩
  clear hR
  walk_at "p";(try simp only [bJ,cJ,aU,bo,bF,bO,bG,aV]);try walk_at "dr2"
  refine⟨_,_,dk3.ins,jZ (by decide +kernel) (by decide +kernel),_,rfl,?_,?_⟩
  ·rw [ja]
   exact gv (m:=7) (n:=868) (by decide +kernel) lsh (by decide)
  rw [Kw _ (by (try clear c eP elf hN hN0' hN1' ha hi hk hk2 hl hm hp k2 k3 kf lf0 lf1 lf7 m30 m401 m8 n_lc p2);omega)]
  refine⟨_,rfl,gv (m:=7) (n:=868) (by decide +kernel) lsh (by decide),?_⟩
  have eB:Str.ofString "poly b "++Tx.shown f=Str.join (Str.ofString " ") ["poly","b",Tx.shown f]:=by
   show _=Str.ofString "poly"++Str.ofString " "++(Str.ofString "b"++Str.ofString " "++Tx.shown f)
   rw [show Str.ofString "poly b "=Str.ofString "poly"++Str.ofString " "++(Str.ofString "b"++Str.ofString " ") by decide +kernel]
   simp only [lO]
  have sb:lB K H3 kd p kvs2 "b" (Str.ofString "poly b "++Tx.shown f) f:=by
   rw [eB]
   exact pW CM (by (try clear c eB eP elf hN hN0' hN1' ha hi hk hk2 hl hm hp k2 k3 kf lf0 lf1 lsh m30 m401 m8 n_lc p2);omega) bf190
  refine sb.go dk3 (by (try clear eB eP elf hN hN0' hN1' ha hi hk hl hm hp k2 k3 kf lf0 lf1 lf7 lsh m30 m401 m8 n_lc p2);omega) λlb H4 g4 nb kb=>⟨rfl,u9 rfl ?_⟩
  have dk4:=(dk3.same g4).put (kvs':=putK kvs2 (Sum.inr (Str.ofString "b")) (V.ref lb))
  have kb:=(aI (o:=HO.dK (putK kvs2 (Sum.inr (Str.ofString "b")) (V.ref lb))) (ni kb (dk3.same g4).kept)).trans kb
  have sk4:Sk kd H3 (upd H4 kd (HO.dK (putK kvs2 (Sum.inr (Str.ofString "b")) (V.ref lb)))):=(Sk.of g4).trans Sk.upd
  have vb:dB (putK kvs2 (Sum.inr (Str.ofString "b")) (V.ref lb)) (Sum.inr (Str.ofString "b"))=some (.ref lb):=by rw [qb,if_pos rfl]
  have lk4:=uu kvs2 (Sum.inr (Str.ofString "b")) (V.ref lb)
  generalize upd H4 kd (HO.dK (putK kvs2 (Sum.inr (Str.ofString "b")) (V.ref lb)))=H5 at dk4 kb sk4 ⊢
  generalize putK kvs2 (Sum.inr (Str.ofString "b")) (V.ref lb)=kvs4 at dk4 vb lk4 ⊢
  clear g4 nb
  have su:lB K H5 kd p kvs4 "u" "poly u 1" [1]:=by
   rw [show ("poly u 1":Str)=Str.join (Str.ofString " ") ["poly","u",Tx.shown [1]] by decide +kernel]
   exact pW Jc (by decide) (λx hx=>by rw [List.mem_singleton.mp hx];exact fM 1 (by decide) (by decide))
  refine⟨_,_,dk4.ins,jZ (by decide +kernel) (by decide +kernel),su.go dk4 (by (try clear eB eP elf hN hN0' hN1' ha hi hk hl hm hp k2 k3 kb kf lf0 lf1 lf7 lsh m30 m401 m8 n_lc p2 vb);omega) λlu H6 g6 nu ku=>⟨rfl,u9 rfl ?_⟩⟩
  have kb:=g6 _ _ kb
  have kb:=(aI (o:=HO.dK (putK kvs4 (Sum.inr (Str.ofString "u")) (V.ref lu))) (ni kb (dk4.same g6).kept)).trans kb
  have ku:=(aI (o:=HO.dK (putK kvs4 (Sum.inr (Str.ofString "u")) (V.ref lu))) (ni ku (dk4.same g6).kept)).trans ku
  have dk5:=(dk4.same g6).put (kvs':=putK kvs4 (Sum.inr (Str.ofString "u")) (V.ref lu))
  have sk5:Sk kd H3 (upd H6 kd (HO.dK (putK kvs4 (Sum.inr (Str.ofString "u")) (V.ref lu)))):=sk4.trans ((Sk.of g6).trans Sk.upd)
  have vu:dB (putK kvs4 (Sum.inr (Str.ofString "u")) (V.ref lu)) (Sum.inr (Str.ofString "u"))=some (.ref lu):=by rw [qb,if_pos rfl]
  have vb:dB (putK kvs4 (Sum.inr (Str.ofString "u")) (V.ref lu)) (Sum.inr (Str.ofString "b"))=some (.ref lb):=by
   rw [qb,if_neg (λe=>absurd (Sum.inr.inj e) (by decide +kernel))]
   exact vb
  have lk5:=uu kvs4 (Sum.inr (Str.ofString "u")) (V.ref lu)
  generalize upd H6 kd (HO.dK (putK kvs4 (Sum.inr (Str.ofString "u")) (V.ref lu)))=H7 at dk5 kb ku sk5 ⊢
  generalize putK kvs4 (Sum.inr (Str.ofString "u")) (V.ref lu)=kvs5 at dk5 vb vu lk5 ⊢
  clear g6 nu sk4 dk4
  walk_at "p";(try simp only [bJ,cJ,aU,bo,bF,bO,bG,aV]);try walk_at "dr2"
  refine⟨by decide,?_⟩
  intro lr n_lr;generalize e0:upd _ lr _=H8;obtain⟨g8,k8⟩:=cL e0 n_lr;clear e0
  have fx:=(fx.sk dk3.kept sk5).sk dk5.kept (Sk.of g8)
  have kf:=g8 _ _ (sk5.lst dk3.kept kf)
  have kb:=g8 _ _ kb
  have ku:=g8 _ _ ku
  have dk8:=dk5.same g8
  have sk8:=sk5.trans (Sk.of g8)
  have m4:=dO (dQ ns 4/16) (show (0:Int)<4 by decide)
  refine⟨ns,fx.s,hl,iY ⟨by decide,by decide⟩,_,az.of k8,?_⟩
  have h4:dQ ns 4/16%4=0∨dQ ns 4/16%4=1∨dQ ns 4/16%4=2∨dQ ns 4/16%4=3:=by ((try clear c eB eP elf hN hN0' hN1' ha hi hk hk2 hl hm hp k2 k3 k8 kb kf ku lf0 lf1 lf7 lk4 lk5 lsh m30 m401 m8 n_lc n_lr p2 vb vu);omega)
  rcases h4 with e4|e4|e4|e4<;>rw [e4]
  ·refine⟨_,aM (j:=0) rfl,?_⟩
   walk_at "q";(try simp only [bJ,cJ,aU,bo,bF,bO,bG,aV]);try walk_at "dr1"
   rw [if_neg (HC _)]
   exact fin H8 kvs5 _ lf f sk8 dk8 (by (try clear e4 eB eP elf hN hN0' hN1' ha hi hk hl hm hp k2 k3 k8 kb kf ku lf0 lf1 lf7 lsh m30 m4 m401 m8 n_lc n_lr p2 vb vu);omega) (eP▸pW rE (by (try clear c e4 eB eP elf hN hN0' hN1' ha hi hk hk2 hl hm hp k2 k3 k8 kb kf ku lf0 lf1 lk4 lk5 lsh m30 m4 m401 m8 n_lc n_lr p2 vb vu);omega) bf190) kf (by (try clear c e4 eB eP elf hN hN0' hN1' ha hi hk hk2 hl hm hp k2 k3 k8 kb kf ku lf0 lf1 lk4 lk5 lsh m30 m4 m401 m8 n_lc n_lr p2 vb vu);omega) bf190
  ·refine⟨_,aM (j:=1) rfl,?_⟩
   walk_at "q";(try simp only [bJ,cJ,aU,bo,bF,bO,bG,aV]);try walk_at "dr1"
   rw [if_neg (by decide +kernel)]
   exact fin H8 kvs5 _ lf f sk8 dk8 (by (try clear e4 eB eP elf hN hN0' hN1' ha hi hk hl hm hp k2 k3 k8 kb kf ku lf0 lf1 lf7 lsh m30 m4 m401 m8 n_lc n_lr p2 vb vu);omega) (EA vb vu (az.of kb) (az.of ku) (by (try clear c e4 eB eP elf hN hN0' hN1' ha hi hk hk2 hl hm hp k2 k3 k8 kb kf ku lf0 lf1 lk4 lk5 lsh m30 m4 m401 m8 n_lc n_lr p2 vb vu);omega) bf190) kf (by (try clear c e4 eB eP elf hN hN0' hN1' ha hi hk hk2 hl hm hp k2 k3 k8 kb kf ku lf0 lf1 lk4 lk5 lsh m30 m4 m401 m8 n_lc n_lr p2 vb vu);omega) bf190
  ·refine⟨_,aM (j:=2) rfl,?_⟩
   walk_at "q";(try simp only [bJ,cJ,aU,bo,bF,bO,bG,aV]);try walk_at "dr1"
   rw [if_neg (by decide +kernel)]
   exact fin H8 kvs5 _ lf f sk8 dk8 (by (try clear e4 eB eP elf hN hN0' hN1' ha hi hk hl hm hp k2 k3 k8 kb kf ku lf0 lf1 lf7 lsh m30 m4 m401 m8 n_lc n_lr p2 vb vu);omega) (FQ vb (az.of kb) hp (by (try clear c e4 eB eP elf hN hN0' hN1' ha hi hk hk2 hl hm hp k2 k3 k8 kb kf ku lf0 lf1 lk4 lk5 lsh m30 m4 m401 m8 n_lc n_lr p2 vb vu);omega) bf190) kf (by (try clear c e4 eB eP elf hN hN0' hN1' ha hi hk hk2 hl hm hp k2 k3 k8 kb kf ku lf0 lf1 lk4 lk5 lsh m30 m4 m401 m8 n_lc n_lr p2 vb vu);omega) bf190
  ·refine⟨_,aM (j:=3) rfl,?_⟩
   walk_at "q";(try simp only [bJ,cJ,aU,bo,bF,bO,bG,aV]);try walk_at "dr1"
   try rw [if_pos rfl]
   refine⟨_,.inl (az.of kf),by decide,by decide,by rw [List.length_map];((try clear c e4 eB eP elf hN hN0' hN1' ha hi hk hk2 hl hm hp k2 k3 k8 kb kf ku lf0 lf1 lk4 lk5 lsh m30 m4 m401 m8 n_lc n_lr p2 vb vu);omega),by rw [List.length_map];((try clear c e4 eB eP elf hN hN0' hN1' ha hi hk hk2 hl hm hp k2 k3 k8 kb kf ku lf0 lf1 lk4 lk5 lsh m30 m4 m401 m8 n_lc n_lr p2 vb vu);omega),yz (az.of kf) (by (try clear c e4 eB eP elf hN hN0' hN1' ha hi hk hk2 hl hm hp k2 k3 k8 kb kf ku lf0 lf1 lk4 lk5 lsh m30 m4 m401 m8 n_lc n_lr p2 vb vu);omega) rfl ?_⟩
   intro l9 n_l9;generalize e0:upd _ l9 _=H9;obtain⟨g9,k9⟩:=cL e0 n_l9;clear e0
   have es:Dr.dm 1 f.tail=Dr.d7 f:=by
    match f,lf7.1 with
    | x::y::g,_=>rfl
   rw [es] at k9
   refine fin H9 kvs5 _ l9 (Dr.d7 f) (sk8.trans (Sk.of g9)) (dk8.same g9) (by (try clear e4 eB eP elf es hN hN0' hN1' ha hi hk hl hm hp k2 k3 k8 k9 kb kf ku lf0 lf1 lf7 lsh m30 m4 m401 m8 n_l9 n_lc n_lr p2 vb vu);omega) (Ez vb (az.of (g9 _ _ kb)) (by (try clear c e4 eB eP elf es hN hN0' hN1' ha hi hk hk2 hl hm hp k2 k3 k8 k9 kb kf ku lf0 lf1 lk4 lk5 lsh m30 m4 m401 m8 n_l9 n_lc n_lr p2 vb vu);omega) λx hx=>(bf x hx).mono (by decide)) k9 ?_ λx hx=>(sL ⟨by (try clear c e4 eB eP elf es hN hN0' hN1' ha hi hk hk2 hl hm hp k2 k3 k8 k9 kb kf ku lf0 lf1 lk4 lk5 lsh m30 m4 m401 m8 n_l9 n_lc n_lr p2 vb vu);omega,by (try clear c e4 eB eP elf es hN hN0' hN1' ha hi hk hk2 hl hm hp k2 k3 k8 k9 kb kf ku lf0 lf1 lk4 lk5 lsh m30 m4 m401 m8 n_l9 n_lc n_lr p2 vb vu);omega⟩ bf x hx).mono (by decide)
   rw [Dr.jg (by (try clear c e4 eB eP elf es hN hN0' hN1' ha hi hk hk2 hl hm hp k2 k3 k8 k9 kb kf ku lf0 lf1 lk4 lk5 lsh m30 m4 m401 m8 n_l9 n_lc n_lr p2 vb vu);omega)]
   ((try clear c e4 eB eP elf es hN hN0' hN1' ha hi hk hk2 hl hm hp k2 k3 k8 k9 kb kf ku lf0 lf1 lk4 lk5 lsh m30 m4 m401 m8 n_l9 n_lc n_lr p2 vb vu);omega)
 intro σ' H4 z
 refine BC λX hX=>?_;obtain⟨sk4,kvs3,row,lf',f',dk4,hk4,sy,kf',lf13,bf',rfl⟩:=(hR _ _).mp z;refine hX ?_;clear hX X
 clear hR z
 have fx:=fx.sk dk3.kept sk4
 walk_at "p";(try simp only [bJ,cJ,aU,bo,bF,bO,bG,aV]);try walk_at "dr2"
 refine⟨_,_,dk4.ins,jZ (by decide +kernel) (by decide +kernel),sy.go dk4 (by (try clear eP elf hN hN0' hN1' ha hk hk2 hl hm hp k2 k3 kf kf' lf0 lf1 lf13 lf7 lsh m30 m401 m8 n_lc p2);omega) λlA H5 g5 nA kA=>⟨rfl,u9 rfl ?_⟩⟩
 have kA:=(aI (o:=HO.dK (putK kvs3 (Sum.inr (Str.ofString "a")) (V.ref lA))) (ni kA (dk4.same g5).kept)).trans kA
 have kf':=g5 _ _ kf'
 have kf':=(aI (o:=HO.dK (putK kvs3 (Sum.inr (Str.ofString "a")) (V.ref lA))) (ni kf' (dk4.same g5).kept)).trans kf'
 have dk6:=(dk4.same g5).put (kvs':=putK kvs3 (Sum.inr (Str.ofString "a")) (V.ref lA))
 have fx:=fx.sk dk4.kept ((Sk.of g5).trans (Sk.upd (o:=HO.dK (putK kvs3 (Sum.inr (Str.ofString "a")) (V.ref lA)))))
 have vA:dB (putK kvs3 (Sum.inr (Str.ofString "a")) (V.ref lA)) (Sum.inr (Str.ofString "a"))=some (.ref lA):=by rw [qb,if_pos rfl]
 have lk6:=uu kvs3 (Sum.inr (Str.ofString "a")) (V.ref lA)
 generalize upd H5 kd (HO.dK (putK kvs3 (Sum.inr (Str.ofString "a")) (V.ref lA)))=H6 at kA kf' dk6 fx ⊢
 generalize putK kvs3 (Sum.inr (Str.ofString "a")) (V.ref lA)=kvs6 at dk6 vA lk6 ⊢
 clear g5 nA sy sk4 dk4 dk3 dk2 dk sk2
 have A0:iT K H6 p lf' f' a N m:=⟨az.of kf',lf13,hpp,bf',ha,hN,hm⟩
 have st0:Ck K H6 kvs6 "a" lA p f' a N m:=⟨rE,vA,az.of kA,lf13,hpp,bf',ha,hN,hm⟩
 walk_at "p";(try simp only [bJ,cJ,aU,bo,bF,bO,bG,aV]);try walk_at "dr2"
 refine⟨by decide,by decide,?_⟩
 obtain⟨Pw,hPw⟩:∃Pw:Nat→St→Hp→Prop,∀j σ H7,Pw j σ H7↔(aL H6 H7∧∃(t10 t11:Option V),σ=[some (.ref la),some (.int p),some (.ref lp),some (.int N),some (.ref lc),some (.int fs),some (.ref d),some (.int (i:Int)),some (.ref lf'),some (.str row),t10,t11]):=⟨_,λ_ _ _=>Iff.rfl⟩
 (first | refine hX _ _ ?_ | skip);refine forR Pw ((hPw _ _ _).mpr ⟨aL.refl _,t10,t11,rfl⟩) ?_ ?_
 case refine_2=>
  intro σ H7 z
  obtain⟨g7,t10,t11,rfl⟩:=(hPw _ _ _).mp z
  exact (hPv _ _ _).mpr ⟨fx.sk dk6.kept (Sk.of g7),kvs6,_,_,_,_,_,dk6.same g7,by (try clear eP elf hN hN0' hN1' ha hi hk hk2 hl hm hp k2 k3 kA kf kf' lf0 lf1 lf13 lf7 lsh m30 m401 m8 n_lc p2 vA);omega,(λ_=>⟨_,vA⟩),rfl⟩
 intro j σ H7 hj z
 obtain⟨g7,t10,t11,rfl⟩:=(hPw _ _ _).mp z
 have hj:j<8:=hj
 have m2:=dO fs (show (0:Int)<2 by decide)
 have b2:0≤1+fs%2*2∧1+fs%2*2≤3:=by ((try clear eP elf hN hN0' hN1' ha hi hj hk hk2 hk4 hl hm hp k2 k3 kA kf kf' lf0 lf1 lf13 lf7 lk6 lsh m30 m401 m8 n_lc p2 vA);omega)
 walk_at "p";(try simp only [bJ,cJ,aU,bo,bF,bO,bG,aV]);try walk_at "dr2"
 refine⟨IntMulOk.of_left (intBits_le_64 (by (try clear b2 eP elf hN hN0' hN1' ha hi hj hk hk2 hk4 hl hm hp k2 k3 kA kf kf' lf0 lf1 lf13 lf7 lk6 lsh m30 m401 m8 n_lc p2 vA);omega) (by (try clear b2 eP elf hN hN0' hN1' ha hi hj hk hk2 hk4 hl hm hp k2 k3 kA kf kf' lf0 lf1 lf13 lf7 lk6 lsh m30 m401 m8 n_lc p2 vA);omega)),IntMulOk.of_left (intBits_le_64 (by (try clear b2 eP elf hN hN0' hN1' ha hi hk hk2 hk4 hl hm hp k2 k3 kA kf kf' lf0 lf1 lf13 lf7 lk6 lsh m2 m30 m401 m8 n_lc p2 vA);omega) (by (try clear b2 eP elf hN hN0' hN1' ha hi hk hk2 hk4 hl hm hp k2 k3 kA kf kf' lf0 lf1 lf13 lf7 lk6 lsh m2 m30 m401 m8 n_lc p2 vA);omega)),?_⟩
 generalize fs+(0+(j:Int))*(1+fs%2*2)=y
 have m8':=dO y (show (0:Int)<8 by decide)
 obtain⟨w',ew,hw⟩:∃w':Nat,y%8=(w':Int)∧w'<8:=⟨(y%8).toNat,by (try clear b2 eP elf hN hN0' hN1' ha hi hj hk hk2 hk4 hl hm hp k2 k3 kA kf kf' lf0 lf1 lf13 lf7 lk6 lsh m2 m30 m401 m8 n_lc p2 vA);omega,by (try clear b2 eP elf hN hN0' hN1' ha hi hj hk hk2 hk4 hl hm hp k2 k3 kA kf kf' lf0 lf1 lf13 lf7 lk6 lsh m2 m30 m401 m8 n_lc p2 vA);omega⟩
 rw [ew]
 clear ew m8' m2 b2
 have fx7:=fx.sk dk6.kept (Sk.of (kd:=kd) g7)
 walk_at "q";(try simp only [bJ,cJ,aU,bo,bF,bO,bG,aV]);try walk_at "dr1"
 refine⟨lc,a,N,m,w',rfl,rfl,hw,az.of fx7.c,ha.1,ha.2,hN.1,hN.2,hm.1,hm.2,λdw ks at0 g th ws H8 tr ltr g8=>?_⟩
 have G8:=g7.trans g8
 refine⟨dx,kd,p,kvs6,lA,f',a,N,m,w',dw,ks,at0,g,th,ws,rfl,dk6.same G8,by (try clear eP elf hN hN0' hN1' ha hj hk hk2 hl hm hp hw k2 k3 kA kf kf' lf0 lf1 lf13 lf7 lsh ltr m30 m401 m8 n_lc p2 vA);omega,ltr,tr,⟨rE,vA,st0.ask.same G8⟩,λr v H9 h9 g9 e9=>?_⟩
 have G9:=G8.trans g9
 refine⟨p,lf',lc,f',a,N,m,w',rfl,rfl,rfl,rfl,hw,az.of ((fx.sk dk6.kept (Sk.of (kd:=kd) G9)).c),A0.same G9,λr' v' H10 h10 g10 e10=>?_⟩
 obtain rfl:=h9.uniq hpp h10
 have fin:=(hPw (j+1) _ H10).mpr ⟨G9.trans g10,some (.int (0+(j:Int))),some (.int (w':Int)),rfl⟩
 cases r with
 | inl s=>
  obtain rfl:v = .str s:=e9
  obtain rfl:v' = .str s:=e10
  exact .inl ⟨rfl,u9 rfl fin⟩
 | inr C=>
  obtain⟨o1,rfl,z1⟩:=e9
  obtain⟨o2,rfl,z2⟩:=e10
  refine .inr (KG _ (az.of (g10 _ _ z1)) (az.of z2) ⟨_,rfl,?_⟩)
  rw [if_neg (by decide)]
  exact fin
theorem all_mk {h:Heap}{fa f1 f2 f3 f4 f5 f6 f7 f8 f9 f10 f11 f12 f13 f14 f15 f16 f17 f18 f19 f20 f21 f22 f23 f24 f25 f26 f27 f28 f29 f30 f31 f32 f33 f34 f35 f36 f37 f38 f39 f40 f41 f42 f43 f44 f45 f46 f47 f48 f49 f50 f51 f52 f53 f54 f55 f56 f57 f58 f59 f60 f61 f62 f63 f64 f65 f66:Addr}(X:K.In h)(G:h.Ns mainGlobals mg)(hfa:mg "law"=some (.ref fa))
    {od1 an1 od2 an2 od3 an3 od4 an4 od5 an5 od6 an6 od7 an7 od8 an8 od9 an9 od10 an10 od11 an11 od12 an12 od13 an13 od14 an14 od15 an15 od16 an16 od17 an17 od18 an18 od19 an19 od20 an20 od21 an21 od22 an22 od23 an23 od24 an24 od25 an25 od26 an26 od27 an27 od28 an28 od29 an29 od30 an30 od31 an31 od32 an32 od33 an33 od34 an34 od35 an35 od36 an36 od37 an37 od38 an38 od39 an39 od40 an40 od41 an41 od42 an42 od43 an43 od44 an44 od45 an45 od46 an46 od47 an47 od48 an48 od49 an49 od50 an50 od51 an51 od52 an52 od53 an53 od54 an54 od55 an55 od56 an56 od57 an57 od58 an58 od59 an59 od60 an60 od61 an61 od62 an62 od63 an63 od64 an64 od65 an65 od66 an66:Option Addr} {sl1 sl2 sl3 sl4 sl5 sl6 sl7 sl8 sl9 sl10 sl11 sl12 sl13 sl14 sl15 sl16 sl17 sl18 sl19 sl20 sl21 sl22 sl23 sl24 sl25 sl26 sl27 sl28 sl29 sl30 sl31 sl32 sl33 sl34 sl35 sl36 sl37 sl38 sl39 sl40 sl41 sl42 sl43 sl44 sl45 sl46 sl47 sl48 sl49 sl50 sl51 sl52 sl53 sl54 sl55 sl56 sl57 sl58 sl59 sl60 sl61 sl62 sl63 sl64 sl65 sl66:Array (Option Value)} {oc1 kV1 dc1 pm1 cd1 ct1 oc2 kV2 dc2 pm2 cd2 ct2 oc3 kV3 dc3 pm3 cd3 ct3 oc4 kV4 dc4 pm4 cd4 ct4 oc5 kV5 dc5 pm5 cd5 ct5 oc6 kV6 dc6 pm6 cd6 ct6 oc7 kV7 dc7 pm7 cd7 ct7 oc8 kV8 dc8 pm8 cd8 ct8 oc9 kV9 dc9 pm9 cd9 ct9 oc10 kV10 dc10 pm10 cd10 ct10 oc11 kV11 dc11 pm11 cd11 ct11 oc12 kV12 dc12 pm12 cd12 ct12 oc13 kV13 dc13 pm13 cd13 ct13 oc14 kV14 dc14 pm14 cd14 ct14 oc15 kV15 dc15 pm15 cd15 ct15 oc16 kV16 dc16 pm16 cd16 ct16 oc17 kV17 dc17 pm17 cd17 ct17 oc18 kV18 dc18 pm18 cd18 ct18 oc19 kV19 dc19 pm19 cd19 ct19 oc20 kV20 dc20 pm20 cd20 ct20 oc21 kV21 dc21 pm21 cd21 ct21 oc22 kV22 dc22 pm22 cd22 ct22 oc23 kV23 dc23 pm23 cd23 ct23 oc24 kV24 dc24 pm24 cd24 ct24 oc25 kV25 dc25 pm25 cd25 ct25 oc26 kV26 dc26 pm26 cd26 ct26 oc27 kV27 dc27 pm27 cd27 ct27 oc28 kV28 dc28 pm28 cd28 ct28 oc29 kV29 dc29 pm29 cd29 ct29 oc30 kV30 dc30 pm30 cd30 ct30 oc31 kV31 dc31 pm31 cd31 ct31 oc32 kV32 dc32 pm32 cd32 ct32 oc33 kV33 dc33 pm33 cd33 ct33 oc34 kV34 dc34 pm34 cd34 ct34 oc35 kV35 dc35 pm35 cd35 ct35 oc36 kV36 dc36 pm36 cd36 ct36 oc37 kV37 dc37 pm37 cd37 ct37 oc38 kV38 dc38 pm38 cd38 ct38 oc39 kV39 dc39 pm39 cd39 ct39 oc40 kV40 dc40 pm40 cd40 ct40 oc41 kV41 dc41 pm41 cd41 ct41 oc42 kV42 dc42 pm42 cd42 ct42 oc43 kV43 dc43 pm43 cd43 ct43 oc44 kV44 dc44 pm44 cd44 ct44 oc45 kV45 dc45 pm45 cd45 ct45 oc46 kV46 dc46 pm46 cd46 ct46 oc47 kV47 dc47 pm47 cd47 ct47 oc48 kV48 dc48 pm48 cd48 ct48 oc49 kV49 dc49 pm49 cd49 ct49 oc50 kV50 dc50 pm50 cd50 ct50 oc51 kV51 dc51 pm51 cd51 ct51 oc52 kV52 dc52 pm52 cd52 ct52 oc53 kV53 dc53 pm53 cd53 ct53 oc54 kV54 dc54 pm54 cd54 ct54 oc55 kV55 dc55 pm55 cd55 ct55 oc56 kV56 dc56 pm56 cd56 ct56 oc57 kV57 dc57 pm57 cd57 ct57 oc58 kV58 dc58 pm58 cd58 ct58 oc59 kV59 dc59 pm59 cd59 ct59 oc60 kV60 dc60 pm60 cd60 ct60 oc61 kV61 dc61 pm61 cd61 ct61 oc62 kV62 dc62 pm62 cd62 ct62 oc63 kV63 dc63 pm63 cd63 ct63 oc64 kV64 dc64 pm64 cd64 ct64 oc65 kV65 dc65 pm65 cd65 ct65 oc66 kV66 dc66 pm66 cd66 ct66:Value}
    (a1:PySem.W.nsIn K mainGlobals "is_prime"=some (some (.ref f1))) (l1:K.lookup f1=some ⟨oc1,od1,.func (PySem.W.fnOf "is_prime" "is_prime" (aH jq) (aE jq) (aj jq) .none kV1 dc1 pm1 an1 cd1 ct1),sl1⟩) (c1:PySem.W.codeIn K cd1 "is_prime"=true) (k1:PySem.W.keepIn K (.ref f1)=true)
    (a2:PySem.W.nsIn K mainGlobals "depth_of"=some (some (.ref f2))) (l2:K.lookup f2=some ⟨oc2,od2,.func (PySem.W.fnOf "depth_of" "depth_of" (aH jo) (aE jo) (aj jo) .none kV2 dc2 pm2 an2 cd2 ct2),sl2⟩) (c2:PySem.W.codeIn K cd2 "depth_of"=true) (k2:PySem.W.keepIn K (.ref f2)=true)
    (a3:PySem.W.nsIn K mainGlobals "power_of"=some (some (.ref f3))) (l3:K.lookup f3=some ⟨oc3,od3,.func (PySem.W.fnOf "power_of" "power_of" (aH jr) (aE jr) (aj jr) .none kV3 dc3 pm3 an3 cd3 ct3),sl3⟩) (c3:PySem.W.codeIn K cd3 "power_of"=true) (k3:PySem.W.keepIn K (.ref f3)=true)
    (a4:PySem.W.nsIn K mainGlobals "inverse_by_prime"=some (some (.ref f4))) (l4:K.lookup f4=some ⟨oc4,od4,.func (PySem.W.fnOf "inverse_by_prime" "inverse_by_prime" (aH eG) (aE eG) (aj eG) .none kV4 dc4 pm4 an4 cd4 ct4),sl4⟩) (c4:PySem.W.codeIn K cd4 "inverse_by_prime"=true) (k4:PySem.W.keepIn K (.ref f4)=true)
    (a5:PySem.W.nsIn K mainGlobals "inverse_of"=some (some (.ref f5))) (l5:K.lookup f5=some ⟨oc5,od5,.func (PySem.W.fnOf "inverse_of" "inverse_of" (aH gP) (aE gP) (aj gP) .none kV5 dc5 pm5 an5 cd5 ct5),sl5⟩) (c5:PySem.W.codeIn K cd5 "inverse_of"=true) (k5:PySem.W.keepIn K (.ref f5)=true)
    (a6:PySem.W.nsIn K mainGlobals "ball_of"=some (some (.ref f6))) (l6:K.lookup f6=some ⟨oc6,od6,.func (PySem.W.fnOf "ball_of" "ball_of" (aH j5) (aE j5) (aj j5) .none kV6 dc6 pm6 an6 cd6 ct6),sl6⟩) (c6:PySem.W.codeIn K cd6 "ball_of"=true) (k6:PySem.W.keepIn K (.ref f6)=true)
    (a7:PySem.W.nsIn K mainGlobals "rises_more"=some (some (.ref f7))) (l7:K.lookup f7=some ⟨oc7,od7,.func (PySem.W.fnOf "rises_more" "rises_more" (aH gU) (aE gU) (aj gU) .none kV7 dc7 pm7 an7 cd7 ct7),sl7⟩) (c7:PySem.W.codeIn K cd7 "rises_more"=true) (k7:PySem.W.keepIn K (.ref f7)=true)
    (a8:PySem.W.nsIn K mainGlobals "add_side"=some (some (.ref f8))) (l8:K.lookup f8=some ⟨oc8,od8,.func (PySem.W.fnOf "add_side" "add_side" (aH jm) (aE jm) (aj jm) .none kV8 dc8 pm8 an8 cd8 ct8),sl8⟩) (c8:PySem.W.codeIn K cd8 "add_side"=true) (k8:PySem.W.keepIn K (.ref f8)=true)
    (a9:PySem.W.nsIn K mainGlobals "border_of"=some (some (.ref f9))) (l9:K.lookup f9=some ⟨oc9,od9,.func (PySem.W.fnOf "border_of" "border_of" (aH iz) (aE iz) (aj iz) .none kV9 dc9 pm9 an9 cd9 ct9),sl9⟩) (c9:PySem.W.codeIn K cd9 "border_of"=true) (k9:PySem.W.keepIn K (.ref f9)=true)
    (a10:PySem.W.nsIn K mainGlobals "first_small_row"=some (some (.ref f10))) (l10:K.lookup f10=some ⟨oc10,od10,.func (PySem.W.fnOf "first_small_row" "first_small_row" (aH eV) (aE eV) (aj eV) .none kV10 dc10 pm10 an10 cd10 ct10),sl10⟩) (c10:PySem.W.codeIn K cd10 "first_small_row"=true) (k10:PySem.W.keepIn K (.ref f10)=true)
    (a11:PySem.W.nsIn K mainGlobals "small_fraction"=some (some (.ref f11))) (l11:K.lookup f11=some ⟨oc11,od11,.func (PySem.W.fnOf "small_fraction" "small_fraction" (aH fj) (aE fj) (aj fj) .none kV11 dc11 pm11 an11 cd11 ct11),sl11⟩) (c11:PySem.W.codeIn K cd11 "small_fraction"=true) (k11:PySem.W.keepIn K (.ref f11)=true)
    (a12:PySem.W.nsIn K mainGlobals "worth_at"=some (some (.ref f12))) (l12:K.lookup f12=some ⟨oc12,od12,.func (PySem.W.fnOf "worth_at" "worth_at" (aH jx) (aE jx) (aj jx) .none kV12 dc12 pm12 an12 cd12 ct12),sl12⟩) (c12:PySem.W.codeIn K cd12 "worth_at"=true) (k12:PySem.W.keepIn K (.ref f12)=true)
    (a13:PySem.W.nsIn K mainGlobals "degree_of"=some (some (.ref f13))) (l13:K.lookup f13=some ⟨oc13,od13,.func (PySem.W.fnOf "degree_of" "degree_of" (aH iA) (aE iA) (aj iA) .none kV13 dc13 pm13 an13 cd13 ct13),sl13⟩) (c13:PySem.W.codeIn K cd13 "degree_of"=true) (k13:PySem.W.keepIn K (.ref f13)=true)
    (a14:PySem.W.nsIn K mainGlobals "poly_product"=some (some (.ref f14))) (l14:K.lookup f14=some ⟨oc14,od14,.func (PySem.W.fnOf "poly_product" "poly_product" (aH fQ) (aE fQ) (aj fQ) .none kV14 dc14 pm14 an14 cd14 ct14),sl14⟩) (c14:PySem.W.codeIn K cd14 "poly_product"=true) (k14:PySem.W.keepIn K (.ref f14)=true)
    (a15:PySem.W.nsIn K mainGlobals "slope_of"=some (some (.ref f15))) (l15:K.lookup f15=some ⟨oc15,od15,.func (PySem.W.fnOf "slope_of" "slope_of" (aH jt) (aE jt) (aj jt) .none kV15 dc15 pm15 an15 cd15 ct15),sl15⟩) (c15:PySem.W.codeIn K cd15 "slope_of"=true) (k15:PySem.W.keepIn K (.ref f15)=true)
    (a16:PySem.W.nsIn K mainGlobals "seen_from"=some (some (.ref f16))) (l16:K.lookup f16=some ⟨oc16,od16,.func (PySem.W.fnOf "seen_from" "seen_from" (aH iF) (aE iF) (aj iF) .none kV16 dc16 pm16 an16 cd16 ct16),sl16⟩) (c16:PySem.W.codeIn K cd16 "seen_from"=true) (k16:PySem.W.keepIn K (.ref f16)=true)
    (a17:PySem.W.nsIn K mainGlobals "content_of"=some (some (.ref f17))) (l17:K.lookup f17=some ⟨oc17,od17,.func (PySem.W.fnOf "content_of" "content_of" (aH gO) (aE gO) (aj gO) .none kV17 dc17 pm17 an17 cd17 ct17),sl17⟩) (c17:PySem.W.codeIn K cd17 "content_of"=true) (k17:PySem.W.keepIn K (.ref f17)=true)
    (a18:PySem.W.nsIn K mainGlobals "without_content"=some (some (.ref f18))) (l18:K.lookup f18=some ⟨oc18,od18,.func (PySem.W.fnOf "without_content" "without_content" (aH eW) (aE eW) (aj eW) .none kV18 dc18 pm18 an18 cd18 ct18),sl18⟩) (c18:PySem.W.codeIn K cd18 "without_content"=true) (k18:PySem.W.keepIn K (.ref f18)=true)
    (a19:PySem.W.nsIn K mainGlobals "rests_by_prime"=some (some (.ref f19))) (l19:K.lookup f19=some ⟨oc19,od19,.func (PySem.W.fnOf "rests_by_prime" "rests_by_prime" (aH fh) (aE fh) (aj fh) .none kV19 dc19 pm19 an19 cd19 ct19),sl19⟩) (c19:PySem.W.codeIn K cd19 "rests_by_prime"=true) (k19:PySem.W.keepIn K (.ref f19)=true)
    (a20:PySem.W.nsIn K mainGlobals "single_depth"=some (some (.ref f20))) (l20:K.lookup f20=some ⟨oc20,od20,.func (PySem.W.fnOf "single_depth" "single_depth" (aH fS) (aE fS) (aj fS) .none kV20 dc20 pm20 an20 cd20 ct20),sl20⟩) (c20:PySem.W.codeIn K cd20 "single_depth"=true) (k20:PySem.W.keepIn K (.ref f20)=true)
    (a21:PySem.W.nsIn K mainGlobals "root_of"=some (some (.ref f21))) (l21:K.lookup f21=some ⟨oc21,od21,.func (PySem.W.fnOf "root_of" "root_of" (aH j6) (aE j6) (aj j6) .none kV21 dc21 pm21 an21 cd21 ct21),sl21⟩) (c21:PySem.W.codeIn K cd21 "root_of"=true) (k21:PySem.W.keepIn K (.ref f21)=true)
    (a22:PySem.W.nsIn K mainGlobals "deepened"=some (some (.ref f22))) (l22:K.lookup f22=some ⟨oc22,od22,.func (PySem.W.fnOf "deepened" "deepened" (aH jn) (aE jn) (aj jn) .none kV22 dc22 pm22 an22 cd22 ct22),sl22⟩) (c22:PySem.W.codeIn K cd22 "deepened"=true) (k22:PySem.W.keepIn K (.ref f22)=true)
    (a23:PySem.W.nsIn K mainGlobals "roots_within"=some (some (.ref f23))) (l23:K.lookup f23=some ⟨oc23,od23,.func (PySem.W.fnOf "roots_within" "roots_within" (aH fR) (aE fR) (aj fR) .none kV23 dc23 pm23 an23 cd23 ct23),sl23⟩) (c23:PySem.W.codeIn K cd23 "roots_within"=true) (k23:PySem.W.keepIn K (.ref f23)=true)
    (a24:PySem.W.nsIn K mainGlobals "endless_roots"=some (some (.ref f24))) (l24:K.lookup f24=some ⟨oc24,od24,.func (PySem.W.fnOf "endless_roots" "endless_roots" (aH fC) (aE fC) (aj fC) .none kV24 dc24 pm24 an24 cd24 ct24),sl24⟩) (c24:PySem.W.codeIn K cd24 "endless_roots"=true) (k24:PySem.W.keepIn K (.ref f24)=true)
    (a25:PySem.W.nsIn K mainGlobals "divides_every_worth"=some (some (.ref f25))) (l25:K.lookup f25=some ⟨oc25,od25,.func (PySem.W.fnOf "divides_every_worth" "divides_every_worth" (aH dP) (aE dP) (aj dP) .none kV25 dc25 pm25 an25 cd25 ct25),sl25⟩) (c25:PySem.W.codeIn K cd25 "divides_every_worth"=true) (k25:PySem.W.keepIn K (.ref f25)=true)
    (a26:PySem.W.nsIn K mainGlobals "solving_balls_within"=some (some (.ref f26))) (l26:K.lookup f26=some ⟨oc26,od26,.func (PySem.W.fnOf "solving_balls_within" "solving_balls_within" (aH dH) (aE dH) (aj dH) .none kV26 dc26 pm26 an26 cd26 ct26),sl26⟩) (c26:PySem.W.codeIn K cd26 "solving_balls_within"=true) (k26:PySem.W.keepIn K (.ref f26)=true)
    (a27:PySem.W.nsIn K mainGlobals "solving_balls"=some (some (.ref f27))) (l27:K.lookup f27=some ⟨oc27,od27,.func (PySem.W.fnOf "solving_balls" "solving_balls" (aH fD) (aE fD) (aj fD) .none kV27 dc27 pm27 an27 cd27 ct27),sl27⟩) (c27:PySem.W.codeIn K cd27 "solving_balls"=true) (k27:PySem.W.keepIn K (.ref f27)=true)
    (a28:PySem.W.nsIn K mainGlobals "solving_rests"=some (some (.ref f28))) (l28:K.lookup f28=some ⟨oc28,od28,.func (PySem.W.fnOf "solving_rests" "solving_rests" (aH fE) (aE fE) (aj fE) .none kV28 dc28 pm28 an28 cd28 ct28),sl28⟩) (c28:PySem.W.codeIn K cd28 "solving_rests"=true) (k28:PySem.W.keepIn K (.ref f28)=true)
    (a29:PySem.W.nsIn K mainGlobals "is_made_of"=some (some (.ref f29))) (l29:K.lookup f29=some ⟨oc29,od29,.func (PySem.W.fnOf "is_made_of" "is_made_of" (aH gQ) (aE gQ) (aj gQ) .none kV29 dc29 pm29 an29 cd29 ct29),sl29⟩) (c29:PySem.W.codeIn K cd29 "is_made_of"=true) (k29:PySem.W.keepIn K (.ref f29)=true)
    (a30:PySem.W.nsIn K mainGlobals "is_written_number"=some (some (.ref f30))) (l30:K.lookup f30=some ⟨oc30,od30,.func (PySem.W.fnOf "is_written_number" "is_written_number" (aH eg) (aE eg) (aj eg) .none kV30 dc30 pm30 an30 cd30 ct30),sl30⟩) (c30:PySem.W.codeIn K cd30 "is_written_number"=true) (k30:PySem.W.keepIn K (.ref f30)=true)
    (a31:PySem.W.nsIn K mainGlobals "can_be_written"=some (some (.ref f31))) (l31:K.lookup f31=some ⟨oc31,od31,.func (PySem.W.fnOf "can_be_written" "can_be_written" (aH fg) (aE fg) (aj fg) .none kV31 dc31 pm31 an31 cd31 ct31),sl31⟩) (c31:PySem.W.codeIn K cd31 "can_be_written"=true) (k31:PySem.W.keepIn K (.ref f31)=true)
    (a32:PySem.W.nsIn K mainGlobals "read_number"=some (some (.ref f32))) (l32:K.lookup f32=some ⟨oc32,od32,.func (PySem.W.fnOf "read_number" "read_number" (aH gj) (aE gj) (aj gj) .none kV32 dc32 pm32 an32 cd32 ct32),sl32⟩) (c32:PySem.W.codeIn K cd32 "read_number"=true) (k32:PySem.W.keepIn K (.ref f32)=true)
    (a33:PySem.W.nsIn K mainGlobals "read_poly"=some (some (.ref f33))) (l33:K.lookup f33=some ⟨oc33,od33,.func (PySem.W.fnOf "read_poly" "read_poly" (aH iE) (aE iE) (aj iE) .none kV33 dc33 pm33 an33 cd33 ct33),sl33⟩) (c33:PySem.W.codeIn K cd33 "read_poly"=true) (k33:PySem.W.keepIn K (.ref f33)=true)
    (a34:PySem.W.nsIn K mainGlobals "show_poly"=some (some (.ref f34))) (l34:K.lookup f34=some ⟨oc34,od34,.func (PySem.W.fnOf "show_poly" "show_poly" (aH iG) (aE iG) (aj iG) .none kV34 dc34 pm34 an34 cd34 ct34),sl34⟩) (c34:PySem.W.codeIn K cd34 "show_poly"=true) (k34:PySem.W.keepIn K (.ref f34)=true)
    (a35:PySem.W.nsIn K mainGlobals "words_of"=some (some (.ref f35))) (l35:K.lookup f35=some ⟨oc35,od35,.func (PySem.W.fnOf "words_of" "words_of" (aH jw) (aE jw) (aj jw) .none kV35 dc35 pm35 an35 cd35 ct35),sl35⟩) (c35:PySem.W.codeIn K cd35 "words_of"=true) (k35:PySem.W.keepIn K (.ref f35)=true)
    (a36:PySem.W.nsIn K mainGlobals "read_name"=some (some (.ref f36))) (l36:K.lookup f36=some ⟨oc36,od36,.func (PySem.W.fnOf "read_name" "read_name" (aH iD) (aE iD) (aj iD) .none kV36 dc36 pm36 an36 cd36 ct36),sl36⟩) (c36:PySem.W.codeIn K cd36 "read_name"=true) (k36:PySem.W.keepIn K (.ref f36)=true)
    (a37:PySem.W.nsIn K mainGlobals "read_depth"=some (some (.ref f37))) (l37:K.lookup f37=some ⟨oc37,od37,.func (PySem.W.fnOf "read_depth" "read_depth" (aH gT) (aE gT) (aj gT) .none kV37 dc37 pm37 an37 cd37 ct37),sl37⟩) (c37:PySem.W.codeIn K cd37 "read_depth"=true) (k37:PySem.W.keepIn K (.ref f37)=true)
    (a38:PySem.W.nsIn K mainGlobals "listed"=some (some (.ref f38))) (l38:K.lookup f38=some ⟨oc38,od38,.func (PySem.W.fnOf "listed" "listed" (aH lx) (aE lx) (aj lx) .none kV38 dc38 pm38 an38 cd38 ct38),sl38⟩) (c38:PySem.W.codeIn K cd38 "listed"=true) (k38:PySem.W.keepIn K (.ref f38)=true)
    (a39:PySem.W.nsIn K mainGlobals "made_poly"=some (some (.ref f39))) (l39:K.lookup f39=some ⟨oc39,od39,.func (PySem.W.fnOf "made_poly" "made_poly" (aH iB) (aE iB) (aj iB) .none kV39 dc39 pm39 an39 cd39 ct39),sl39⟩) (c39:PySem.W.codeIn K cd39 "made_poly"=true) (k39:PySem.W.keepIn K (.ref f39)=true)
    (a40:PySem.W.nsIn K mainGlobals "made_times"=some (some (.ref f40))) (l40:K.lookup f40=some ⟨oc40,od40,.func (PySem.W.fnOf "made_times" "made_times" (aH gS) (aE gS) (aj gS) .none kV40 dc40 pm40 an40 cd40 ct40),sl40⟩) (c40:PySem.W.codeIn K cd40 "made_times"=true) (k40:PySem.W.keepIn K (.ref f40)=true)
    (a41:PySem.W.nsIn K mainGlobals "made_seen"=some (some (.ref f41))) (l41:K.lookup f41=some ⟨oc41,od41,.func (PySem.W.fnOf "made_seen" "made_seen" (aH iC) (aE iC) (aj iC) .none kV41 dc41 pm41 an41 cd41 ct41),sl41⟩) (c41:PySem.W.codeIn K cd41 "made_seen"=true) (k41:PySem.W.keepIn K (.ref f41)=true)
    (a42:PySem.W.nsIn K mainGlobals "made_slope"=some (some (.ref f42))) (l42:K.lookup f42=some ⟨oc42,od42,.func (PySem.W.fnOf "made_slope" "made_slope" (aH gR) (aE gR) (aj gR) .none kV42 dc42 pm42 an42 cd42 ct42),sl42⟩) (c42:PySem.W.codeIn K cd42 "made_slope"=true) (k42:PySem.W.keepIn K (.ref f42)=true)
    (a43:PySem.W.nsIn K mainGlobals "told_show"=some (some (.ref f43))) (l43:K.lookup f43=some ⟨oc43,od43,.func (PySem.W.fnOf "told_show" "told_show" (aH iI) (aE iI) (aj iI) .none kV43 dc43 pm43 an43 cd43 ct43),sl43⟩) (c43:PySem.W.codeIn K cd43 "told_show"=true) (k43:PySem.W.keepIn K (.ref f43)=true)
    (a44:PySem.W.nsIn K mainGlobals "told_solve"=some (some (.ref f44))) (l44:K.lookup f44=some ⟨oc44,od44,.func (PySem.W.fnOf "told_solve" "told_solve" (aH gZ) (aE gZ) (aj gZ) .none kV44 dc44 pm44 an44 cd44 ct44),sl44⟩) (c44:PySem.W.codeIn K cd44 "told_solve"=true) (k44:PySem.W.keepIn K (.ref f44)=true)
    (a45:PySem.W.nsIn K mainGlobals "told_count"=some (some (.ref f45))) (l45:K.lookup f45=some ⟨oc45,od45,.func (PySem.W.fnOf "told_count" "told_count" (aH gW) (aE gW) (aj gW) .none kV45 dc45 pm45 an45 cd45 ct45),sl45⟩) (c45:PySem.W.codeIn K cd45 "told_count"=true) (k45:PySem.W.keepIn K (.ref f45)=true)
    (a46:PySem.W.nsIn K mainGlobals "told_single"=some (some (.ref f46))) (l46:K.lookup f46=some ⟨oc46,od46,.func (PySem.W.fnOf "told_single" "told_single" (aH gn) (aE gn) (aj gn) .none kV46 dc46 pm46 an46 cd46 ct46),sl46⟩) (c46:PySem.W.codeIn K cd46 "told_single"=true) (k46:PySem.W.keepIn K (.ref f46)=true)
    (a47:PySem.W.nsIn K mainGlobals "told_root"=some (some (.ref f47))) (l47:K.lookup f47=some ⟨oc47,od47,.func (PySem.W.fnOf "told_root" "told_root" (aH iH) (aE iH) (aj iH) .none kV47 dc47 pm47 an47 cd47 ct47),sl47⟩) (c47:PySem.W.codeIn K cd47 "told_root"=true) (k47:PySem.W.keepIn K (.ref f47)=true)
    (a48:PySem.W.nsIn K mainGlobals "told_roots"=some (some (.ref f48))) (l48:K.lookup f48=some ⟨oc48,od48,.func (PySem.W.fnOf "told_roots" "told_roots" (aH gX) (aE gX) (aj gX) .none kV48 dc48 pm48 an48 cd48 ct48),sl48⟩) (c48:PySem.W.codeIn K cd48 "told_roots"=true) (k48:PySem.W.keepIn K (.ref f48)=true)
    (a49:PySem.W.nsIn K mainGlobals "told_border"=some (some (.ref f49))) (l49:K.lookup f49=some ⟨oc49,od49,.func (PySem.W.fnOf "told_border" "told_border" (aH gk) (aE gk) (aj gk) .none kV49 dc49 pm49 an49 cd49 ct49),sl49⟩) (c49:PySem.W.codeIn K cd49 "told_border"=true) (k49:PySem.W.keepIn K (.ref f49)=true)
    (a50:PySem.W.nsIn K mainGlobals "told_small"=some (some (.ref f50))) (l50:K.lookup f50=some ⟨oc50,od50,.func (PySem.W.fnOf "told_small" "told_small" (aH gY) (aE gY) (aj gY) .none kV50 dc50 pm50 an50 cd50 ct50),sl50⟩) (c50:PySem.W.codeIn K cd50 "told_small"=true) (k50:PySem.W.keepIn K (.ref f50)=true)
    (l51:K.lookup f51=some ⟨oc51,od51,.func (PySem.W.fnOf "__init__" "Desk.__init__" (aH ji) (aE ji) (aj ji) .none kV51 dc51 pm51 an51 cd51 ct51),sl51⟩) (c51:PySem.W.codeIn K cd51 "Desk.__init__"=true) (k51:PySem.W.keepIn K (.ref f51)=true) (n51:PySem.W.isFn K (.ref f51)=true)
    (l52:K.lookup f52=some ⟨oc52,od52,.func (PySem.W.fnOf "say" "Desk.say" (aH sJ) (aE sJ) (aj sJ) .none kV52 dc52 pm52 an52 cd52 ct52),sl52⟩) (c52:PySem.W.codeIn K cd52 "Desk.say"=true) (k52:PySem.W.keepIn K (.ref f52)=true) (n52:PySem.W.isFn K (.ref f52)=true)
    (l53:K.lookup f53=some ⟨oc53,od53,.func (PySem.W.fnOf "thing_of" "Desk.thing_of" (aH jv) (aE jv) (aj jv) .none kV53 dc53 pm53 an53 cd53 ct53),sl53⟩) (c53:PySem.W.codeIn K cd53 "Desk.thing_of"=true) (k53:PySem.W.keepIn K (.ref f53)=true) (n53:PySem.W.isFn K (.ref f53)=true)
    (l54:K.lookup f54=some ⟨oc54,od54,.func (PySem.W.fnOf "standing" "Desk.standing" (aH ju) (aE ju) (aj ju) .none kV54 dc54 pm54 an54 cd54 ct54),sl54⟩) (c54:PySem.W.codeIn K cd54 "Desk.standing"=true) (k54:PySem.W.keepIn K (.ref f54)=true) (n54:PySem.W.isFn K (.ref f54)=true)
    (l55:K.lookup f55=some ⟨oc55,od55,.func (PySem.W.fnOf "keep" "Desk.keep" (aH o6) (aE o6) (aj o6) .none kV55 dc55 pm55 an55 cd55 ct55),sl55⟩) (c55:PySem.W.codeIn K cd55 "Desk.keep"=true) (k55:PySem.W.keepIn K (.ref f55)=true) (n55:PySem.W.isFn K (.ref f55)=true)
    (a56:PySem.W.nsIn K mainGlobals "_law_cell"=some (some (.ref f56))) (l56:K.lookup f56=some ⟨oc56,od56,.func (PySem.W.fnOf "_law_cell" "_law_cell" (aH iu) (aE iu) (aj iu) .none kV56 dc56 pm56 an56 cd56 ct56),sl56⟩) (c56:PySem.W.codeIn K cd56 "_law_cell"=true) (k56:PySem.W.keepIn K (.ref f56)=true)
    (a57:PySem.W.nsIn K mainGlobals "_law_prime"=some (some (.ref f57))) (l57:K.lookup f57=some ⟨oc57,od57,.func (PySem.W.fnOf "_law_prime" "_law_prime" (aH fV) (aE fV) (aj fV) .none kV57 dc57 pm57 an57 cd57 ct57),sl57⟩) (c57:PySem.W.codeIn K cd57 "_law_prime"=true) (k57:PySem.W.keepIn K (.ref f57)=true)
    (a58:PySem.W.nsIn K mainGlobals "_law_times"=some (some (.ref f58))) (l58:K.lookup f58=some ⟨oc58,od58,.func (PySem.W.fnOf "_law_times" "_law_times" (aH gL) (aE gL) (aj gL) .none kV58 dc58 pm58 an58 cd58 ct58),sl58⟩) (c58:PySem.W.codeIn K cd58 "_law_times"=true) (k58:PySem.W.keepIn K (.ref f58)=true)
    (a59:PySem.W.nsIn K mainGlobals "_law_part"=some (some (.ref f59))) (l59:K.lookup f59=some ⟨oc59,od59,.func (PySem.W.fnOf "_law_part" "_law_part" (aH iw) (aE iw) (aj iw) .none kV59 dc59 pm59 an59 cd59 ct59),sl59⟩) (c59:PySem.W.codeIn K cd59 "_law_part"=true) (k59:PySem.W.keepIn K (.ref f59)=true)
    (a60:PySem.W.nsIn K mainGlobals "_law_poly"=some (some (.ref f60))) (l60:K.lookup f60=some ⟨oc60,od60,.func (PySem.W.fnOf "_law_poly" "_law_poly" (aH ix) (aE ix) (aj ix) .none kV60 dc60 pm60 an60 cd60 ct60),sl60⟩) (c60:PySem.W.codeIn K cd60 "_law_poly"=true) (k60:PySem.W.keepIn K (.ref f60)=true)
    (a61:PySem.W.nsIn K mainGlobals "_law_words"=some (some (.ref f61))) (l61:K.lookup f61=some ⟨oc61,od61,.func (PySem.W.fnOf "_law_words" "_law_words" (aH gM) (aE gM) (aj gM) .none kV61 dc61 pm61 an61 cd61 ct61),sl61⟩) (c61:PySem.W.codeIn K cd61 "_law_words"=true) (k61:PySem.W.keepIn K (.ref f61)=true)
    (a62:PySem.W.nsIn K mainGlobals "_law_due"=some (some (.ref f62))) (l62:K.lookup f62=some ⟨oc62,od62,.func (PySem.W.fnOf "_law_due" "_law_due" (aH jj) (aE jj) (aj jj) .none kV62 dc62 pm62 an62 cd62 ct62),sl62⟩) (c62:PySem.W.codeIn K cd62 "_law_due"=true) (k62:PySem.W.keepIn K (.ref f62)=true)
    (a63:PySem.W.nsIn K mainGlobals "_law_row"=some (some (.ref f63))) (l63:K.lookup f63=some ⟨oc63,od63,.func (PySem.W.fnOf "_law_row" "_law_row" (aH jk) (aE jk) (aj jk) .none kV63 dc63 pm63 an63 cd63 ct63),sl63⟩) (c63:PySem.W.codeIn K cd63 "_law_row"=true) (k63:PySem.W.keepIn K (.ref f63)=true)
    (a64:PySem.W.nsIn K mainGlobals "_law_said"=some (some (.ref f64))) (l64:K.lookup f64=some ⟨oc64,od64,.func (PySem.W.fnOf "_law_said" "_law_said" (aH iy) (aE iy) (aj iy) .none kV64 dc64 pm64 an64 cd64 ct64),sl64⟩) (c64:PySem.W.codeIn K cd64 "_law_said"=true) (k64:PySem.W.keepIn K (.ref f64)=true)
    (a65:PySem.W.nsIn K mainGlobals "_law_wanted"=some (some (.ref f65))) (l65:K.lookup f65=some ⟨oc65,od65,.func (PySem.W.fnOf "_law_wanted" "_law_wanted" (aH gi) (aE gi) (aj gi) .none kV65 dc65 pm65 an65 cd65 ct65),sl65⟩) (c65:PySem.W.codeIn K cd65 "_law_wanted"=true) (k65:PySem.W.keepIn K (.ref f65)=true)
    (a66:PySem.W.nsIn K mainGlobals "law"=some (some (.ref f66))) (l66:K.lookup f66=some ⟨oc66,od66,.func (PySem.W.fnOf "law" "law" (aH mD) (aE mD) (aj mD) .none kV66 dc66 pm66 an66 cd66 ct66),sl66⟩) (c66:PySem.W.codeIn K cd66 "law"=true) (k66:PySem.W.keepIn K (.ref f66)=true)
    (z_abs:PySem.W.nsIn K mainGlobals "abs"=some none) (z_all:PySem.W.nsIn K mainGlobals "all"=some none) (z_bool:PySem.W.nsIn K mainGlobals "bool"=some none) (z_enumerate:PySem.W.nsIn K mainGlobals "enumerate"=some none) (z_int:PySem.W.nsIn K mainGlobals "int"=some none) (z_isinstance:PySem.W.nsIn K mainGlobals "isinstance"=some none) (z_len:PySem.W.nsIn K mainGlobals "len"=some none) (z_list:PySem.W.nsIn K mainGlobals "list"=some none) (z_max:PySem.W.nsIn K mainGlobals "max"=some none) (z_min:PySem.W.nsIn K mainGlobals "min"=some none) (z_range:PySem.W.nsIn K mainGlobals "range"=some none) (z_reversed:PySem.W.nsIn K mainGlobals "reversed"=some none) (z_sorted:PySem.W.nsIn K mainGlobals "sorted"=some none) (z_str:PySem.W.nsIn K mainGlobals "str"=some none) (z_sum:PySem.W.nsIn K mainGlobals "sum"=some none) (z_zip:PySem.W.nsIn K mainGlobals "zip"=some none) {t_FIGURES:Tok} (z_FIGURES:PySem.W.nsIn K mainGlobals "FIGURES"=some (some (.str "0123456789" t_FIGURES))) {t_GREATEST_DEPTH:Tok} (z_GREATEST_DEPTH:PySem.W.nsIn K mainGlobals "GREATEST_DEPTH"=some (some (.int 60 t_GREATEST_DEPTH))) {t_GREATEST_PRIME:Tok} (z_GREATEST_PRIME:PySem.W.nsIn K mainGlobals "GREATEST_PRIME"=some (some (.int 97 t_GREATEST_PRIME))) {t_LETTERS:Tok} (z_LETTERS:PySem.W.nsIn K mainGlobals "LETTERS"=some (some (.str "abcdefghijklmnopqrstuvwxyz" t_LETTERS))) {t_MOST_FIGURES:Tok} (z_MOST_FIGURES:PySem.W.nsIn K mainGlobals "MOST_FIGURES"=some (some (.int 60 t_MOST_FIGURES))) {t_MOST_LETTERS:Tok} (z_MOST_LETTERS:PySem.W.nsIn K mainGlobals "MOST_LETTERS"=some (some (.int 8 t_MOST_LETTERS))) {t_MOST_NUMBERS:Tok} (z_MOST_NUMBERS:PySem.W.nsIn K mainGlobals "MOST_NUMBERS"=some (some (.int 13 t_MOST_NUMBERS))) (lS:ke K w 419 dA) (lR:PySem.W.nsIn K mainGlobals "WANTED"=some (some (.ref 419))) (sA:ke K w 546 fq) (si:PySem.W.nsIn K mainGlobals "MADE"=some (some (.ref 546))) (sC:ke K w 547 ir) (sj:PySem.W.nsIn K mainGlobals "TOLD"=some (some (.ref 547))) (Ai:ej K 420 [.str "new",.str "poly"]) (Aj:ej K 421 [.str "new",.str "name",.str "name"]) (Ak:ej K 422 [.str "new",.str "name",.str "number",.str "depth"]) (Al:ej K 423 [.str "new",.str "name"]) (Am:ej K 424 [.str "name"]) (An:ej K 426 [.str "name"]) (Ao:ej K 427 [.str "name",.str "depth"]) (Ap:ej K 428 [.str "name",.str "depth"]) (Aq:ej K 429 [.str "name",.str "number"]) (As:ej K 430 [.str "name",.str "number",.str "depth"]) (Au:ej K 431 [.str "name",.str "depth"]) (Av:ej K 432 [.str "name"]) (Aw:ej K 433 [.str "number",.str "depth",.str "number"]) (mV:PySem.W.nsIn K mainGlobals "made_poly"=some (some (.ref 469))) (lX:PySem.W.nsIn K mainGlobals "made_times"=some (some (.ref 476))) (mW:PySem.W.nsIn K mainGlobals "made_seen"=some (some (.ref 483))) (lW:PySem.W.nsIn K mainGlobals "made_slope"=some (some (.ref 490))) (mY:PySem.W.nsIn K mainGlobals "told_show"=some (some (.ref 497))) (md:PySem.W.nsIn K mainGlobals "told_solve"=some (some (.ref 502))) (lY:PySem.W.nsIn K mainGlobals "told_count"=some (some (.ref 509))) (kT:PySem.W.nsIn K mainGlobals "told_single"=some (some (.ref 516))) (mX:PySem.W.nsIn K mainGlobals "told_root"=some (some (.ref 523))) (lZ:PySem.W.nsIn K mainGlobals "told_roots"=some (some (.ref 528))) (kS:PySem.W.nsIn K mainGlobals "told_border"=some (some (.ref 533))) (ma:PySem.W.nsIn K mainGlobals "told_small"=some (some (.ref 540))) {e_Desk:Addr} (z_Desk:PySem.W.nsIn K mainGlobals "Desk"=some (some (.ref e_Desk))) {e_NoDepth:Addr} (z_NoDepth:PySem.W.nsIn K mainGlobals "NoDepth"=some (some (.ref e_NoDepth))) {e_NoInverse:Addr} (z_NoInverse:PySem.W.nsIn K mainGlobals "NoInverse"=some (some (.ref e_NoInverse))) {e_NoName:Addr} (z_NoName:PySem.W.nsIn K mainGlobals "NoName"=some (some (.ref e_NoName))) {e_NoParts:Addr} (z_NoParts:PySem.W.nsIn K mainGlobals "NoParts"=some (some (.ref e_NoParts))) {e_NoPrime:Addr} (z_NoPrime:PySem.W.nsIn K mainGlobals "NoPrime"=some (some (.ref e_NoPrime))) {e_NoRow:Addr} (z_NoRow:PySem.W.nsIn K mainGlobals "NoRow"=some (some (.ref e_NoRow))) {e_NoSingle:Addr} (z_NoSingle:PySem.W.nsIn K mainGlobals "NoSingle"=some (some (.ref e_NoSingle))) {e_NoSmall:Addr} (z_NoSmall:PySem.W.nsIn K mainGlobals "NoSmall"=some (some (.ref e_NoSmall))) {e_NoText:Addr} (z_NoText:PySem.W.nsIn K mainGlobals "NoText"=some (some (.ref e_NoText))) {e_RestError:Addr} (z_RestError:PySem.W.nsIn K mainGlobals "RestError"=some (some (.ref e_RestError))) {e_TooDeep:Addr} (z_TooDeep:PySem.W.nsIn K mainGlobals "TooDeep"=some (some (.ref e_TooDeep))) {e_TooGreat:Addr} (z_TooGreat:PySem.W.nsIn K mainGlobals "TooGreat"=some (some (.ref e_TooGreat))) (oa:kL K e_NoDepth) (qf:kL K e_NoSingle) (rY:kL K e_NoSmall) (rZ:kL K e_TooDeep) (qg:kL K e_TooGreat) (iO:PySem.W.exmOne K (.ref e_NoDepth) (.ref e_RestError)=some true) (ie:PySem.W.exmOne K (.ref e_NoSingle) (.ref e_RestError)=some true) (iP:PySem.W.exmOne K (.ref e_NoSmall) (.ref e_RestError)=some true) (iQ:PySem.W.exmOne K (.ref e_TooDeep) (.ref e_RestError)=some true) (rf:Xc.jT K e_NoDepth) (pG:Xc.jT K e_NoSingle) (rg:Xc.jT K e_NoSmall) (rh:Xc.jT K e_TooDeep) (ki:Ke K=true) (d9:oB K e_Desk) (mk_Desk:PySem.W.makesIn K e_Desk=true) (kc_Desk:PySem.W.keepIn K (.ref e_Desk)=true) (ng:jH K e_Desk "prime") (kX:jH K e_Desk "kept") (a51:PySem.W.findIn K (.ref e_Desk) "__init__"=some (some (.ref f51))) (a52:PySem.W.findIn K (.ref e_Desk) "say"=some (some (.ref f52))) (a53:PySem.W.findIn K (.ref e_Desk) "thing_of"=some (some (.ref f53))) (a54:PySem.W.findIn K (.ref e_Desk) "standing"=some (some (.ref f54))) (a55:PySem.W.findIn K (.ref e_Desk) "keep"=some (some (.ref f55))) :
    ∃fd:FuncData,(∀(s:Shared) (v:Value),BindsTo s fd ⟨[v],[]⟩ [("script",v)])∧∀base:Heap,K.In base→base.Ns mainGlobals mg→bc P w K mg base cY 72 fa fd ["script"] (C3 K):=by
  have e:=hfa.symm.trans (PySem.W.mg_of X G a66)
  cases e
  have F1:=aW (st:=jq) l1 c1 k1
  have b1:=F1.binds (ps:=["thing"]) λ_ _ _ _ _ _ us hl=>by obtain⟨_,rfl⟩:=n8 hl;rfl
  have F2:=aW (st:=jo) l2 c2 k2
  have b2:=F2.binds (ps:=["p","x"]) λ_ _ _ _ _ _ us hl=>by obtain⟨_,_,rfl⟩:=fL hl;rfl
  have F3:=aW (st:=jr) l3 c3 k3
  have b3:=F3.binds (ps:=["p","e"]) λ_ _ _ _ _ _ us hl=>by obtain⟨_,_,rfl⟩:=fL hl;rfl
  have F4:=aW (st:=eG) l4 c4 k4
  have b4:=F4.binds (ps:=["p","x"]) λ_ _ _ _ _ _ us hl=>by obtain⟨_,_,rfl⟩:=fL hl;rfl
  have F5:=aW (st:=gP) l5 c5 k5
  have b5:=F5.binds (ps:=["p","e","x"]) λ_ _ _ _ _ _ us hl=>by obtain⟨_,_,_,rfl⟩:=n9 hl;rfl
  have F6:=aW (st:=j5) l6 c6 k6
  have b6:=F6.binds (ps:=["p","x","e"]) λ_ _ _ _ _ _ us hl=>by obtain⟨_,_,_,rfl⟩:=n9 hl;rfl
  have F7:=aW (st:=gU) l7 c7 k7
  have b7:=F7.binds (ps:=["side","ahead"]) λ_ _ _ _ _ _ us hl=>by obtain⟨_,_,rfl⟩:=fL hl;rfl
  have F8:=aW (st:=jm) l8 c8 k8
  have b8:=F8.binds (ps:=["sides","side"]) λ_ _ _ _ _ _ us hl=>by obtain⟨_,_,rfl⟩:=fL hl;rfl
  have F9:=aW (st:=iz) l9 c9 k9
  have b9:=F9.binds (ps:=["p","f"]) λ_ _ _ _ _ _ us hl=>by obtain⟨_,_,rfl⟩:=fL hl;rfl
  have F10:=aW (st:=eV) l10 c10 k10
  have b10:=F10.binds (ps:=["power","a","m"]) λ_ _ _ _ _ _ us hl=>by obtain⟨_,_,_,rfl⟩:=n9 hl;rfl
  have F11:=aW (st:=fj) l11 c11 k11
  have b11:=F11.binds (ps:=["p","one","m"]) λ_ _ _ _ _ _ us hl=>by obtain⟨_,_,_,rfl⟩:=n9 hl;rfl
  have F12:=aW (st:=jx) l12 c12 k12
  have b12:=F12.binds (ps:=["f","x"]) λ_ _ _ _ _ _ us hl=>by obtain⟨_,_,rfl⟩:=fL hl;rfl
  have F13:=aW (st:=iA) l13 c13 k13
  have b13:=F13.binds (ps:=["f"]) λ_ _ _ _ _ _ us hl=>by obtain⟨_,rfl⟩:=n8 hl;rfl
  have F14:=aW (st:=fQ) l14 c14 k14
  have b14:=F14.binds (ps:=["f","g"]) λ_ _ _ _ _ _ us hl=>by obtain⟨_,_,rfl⟩:=fL hl;rfl
  have F15:=aW (st:=jt) l15 c15 k15
  have b15:=F15.binds (ps:=["f"]) λ_ _ _ _ _ _ us hl=>by obtain⟨_,rfl⟩:=n8 hl;rfl
  have F16:=aW (st:=iF) l16 c16 k16
  have b16:=F16.binds (ps:=["p","f","a","e"]) λ_ _ _ _ _ _ us hl=>by obtain⟨_,_,_,_,rfl⟩:=ES hl;rfl
  have F17:=aW (st:=gO) l17 c17 k17
  have b17:=F17.binds (ps:=["p","f"]) λ_ _ _ _ _ _ us hl=>by obtain⟨_,_,rfl⟩:=fL hl;rfl
  have F18:=aW (st:=eW) l18 c18 k18
  have b18:=F18.binds (ps:=["p","f"]) λ_ _ _ _ _ _ us hl=>by obtain⟨_,_,rfl⟩:=fL hl;rfl
  have F19:=aW (st:=fh) l19 c19 k19
  have b19:=F19.binds (ps:=["p","f"]) λ_ _ _ _ _ _ us hl=>by obtain⟨_,_,rfl⟩:=fL hl;rfl
  have F20:=aW (st:=fS) l20 c20 k20
  have b20:=F20.binds (ps:=["p","f","a"]) λ_ _ _ _ _ _ us hl=>by obtain⟨_,_,_,rfl⟩:=n9 hl;rfl
  have F21:=aW (st:=j6) l21 c21 k21
  have b21:=F21.binds (ps:=["p","f","a","N"]) λ_ _ _ _ _ _ us hl=>by obtain⟨_,_,_,_,rfl⟩:=ES hl;rfl
  have F22:=aW (st:=jn) l22 c22 k22
  have b22:=F22.binds (ps:=["p","f","a","d","N"]) λ_ _ _ _ _ _ us hl=>by obtain⟨_,_,_,_,_,rfl⟩:=JF hl;rfl
  have F23:=aW (st:=fR) l23 c23 k23
  have b23:=F23.binds (ps:=["p","a","e","seen","N"]) λ_ _ _ _ _ _ us hl=>by obtain⟨_,_,_,_,_,rfl⟩:=JF hl;rfl
  have F24:=aW (st:=fC) l24 c24 k24
  have b24:=F24.binds (ps:=["p","f","N"]) λ_ _ _ _ _ _ us hl=>by obtain⟨_,_,_,rfl⟩:=n9 hl;rfl
  have F25:=aW (st:=dP) l25 c25 k25
  have b25:=F25.binds (ps:=["p","f","N"]) λ_ _ _ _ _ _ us hl=>by obtain⟨_,_,_,rfl⟩:=n9 hl;rfl
  have F26:=aW (st:=dH) l26 c26 k26
  have b26:=F26.binds (ps:=["p","a","e","seen","N"]) λ_ _ _ _ _ _ us hl=>by obtain⟨_,_,_,_,_,rfl⟩:=JF hl;rfl
  have F27:=aW (st:=fD) l27 c27 k27
  have b27:=F27.binds (ps:=["p","f","N"]) λ_ _ _ _ _ _ us hl=>by obtain⟨_,_,_,rfl⟩:=n9 hl;rfl
  have F28:=aW (st:=fE) l28 c28 k28
  have b28:=F28.binds (ps:=["p","f","N"]) λ_ _ _ _ _ _ us hl=>by obtain⟨_,_,_,rfl⟩:=n9 hl;rfl
  have F29:=aW (st:=gQ) l29 c29 k29
  have b29:=F29.binds (ps:=["text","signs"]) λ_ _ _ _ _ _ us hl=>by obtain⟨_,_,rfl⟩:=fL hl;rfl
  have F30:=aW (st:=eg) l30 c30 k30
  have b30:=F30.binds (ps:=["text"]) λ_ _ _ _ _ _ us hl=>by obtain⟨_,rfl⟩:=n8 hl;rfl
  have F31:=aW (st:=fg) l31 c31 k31
  have b31:=F31.binds (ps:=["number"]) λ_ _ _ _ _ _ us hl=>by obtain⟨_,rfl⟩:=n8 hl;rfl
  have F32:=aW (st:=gj) l32 c32 k32
  have b32:=F32.binds (ps:=["text"]) λ_ _ _ _ _ _ us hl=>by obtain⟨_,rfl⟩:=n8 hl;rfl
  have F33:=aW (st:=iE) l33 c33 k33
  have b33:=F33.binds (ps:=["text"]) λ_ _ _ _ _ _ us hl=>by obtain⟨_,rfl⟩:=n8 hl;rfl
  have F34:=aW (st:=iG) l34 c34 k34
  have b34:=F34.binds (ps:=["f"]) λ_ _ _ _ _ _ us hl=>by obtain⟨_,rfl⟩:=n8 hl;rfl
  have F35:=aW (st:=jw) l35 c35 k35
  have b35:=F35.binds (ps:=["row"]) λ_ _ _ _ _ _ us hl=>by obtain⟨_,rfl⟩:=n8 hl;rfl
  have F36:=aW (st:=iD) l36 c36 k36
  have b36:=F36.binds (ps:=["word"]) λ_ _ _ _ _ _ us hl=>by obtain⟨_,rfl⟩:=n8 hl;rfl
  have F37:=aW (st:=gT) l37 c37 k37
  have b37:=F37.binds (ps:=["word"]) λ_ _ _ _ _ _ us hl=>by obtain⟨_,rfl⟩:=n8 hl;rfl
  have F38:=aW (st:=lx) l38 c38 k38
  have b38:=F38.binds (ps:=["texts","without"]) λ_ _ _ _ _ _ us hl=>by obtain⟨_,_,rfl⟩:=fL hl;rfl
  have F39:=aW (st:=iB) l39 c39 k39
  have b39:=F39.binds (ps:=["p","things"]) λ_ _ _ _ _ _ us hl=>by obtain⟨_,_,rfl⟩:=fL hl;rfl
  have F40:=aW (st:=gS) l40 c40 k40
  have b40:=F40.binds (ps:=["p","things"]) λ_ _ _ _ _ _ us hl=>by obtain⟨_,_,rfl⟩:=fL hl;rfl
  have F41:=aW (st:=iC) l41 c41 k41
  have b41:=F41.binds (ps:=["p","things"]) λ_ _ _ _ _ _ us hl=>by obtain⟨_,_,rfl⟩:=fL hl;rfl
  have F42:=aW (st:=gR) l42 c42 k42
  have b42:=F42.binds (ps:=["p","things"]) λ_ _ _ _ _ _ us hl=>by obtain⟨_,_,rfl⟩:=fL hl;rfl
  have F43:=aW (st:=iI) l43 c43 k43
  have b43:=F43.binds (ps:=["p","things"]) λ_ _ _ _ _ _ us hl=>by obtain⟨_,_,rfl⟩:=fL hl;rfl
  have F44:=aW (st:=gZ) l44 c44 k44
  have b44:=F44.binds (ps:=["p","things"]) λ_ _ _ _ _ _ us hl=>by obtain⟨_,_,rfl⟩:=fL hl;rfl
  have F45:=aW (st:=gW) l45 c45 k45
  have b45:=F45.binds (ps:=["p","things"]) λ_ _ _ _ _ _ us hl=>by obtain⟨_,_,rfl⟩:=fL hl;rfl
  have F46:=aW (st:=gn) l46 c46 k46
  have b46:=F46.binds (ps:=["p","things"]) λ_ _ _ _ _ _ us hl=>by obtain⟨_,_,rfl⟩:=fL hl;rfl
  have F47:=aW (st:=iH) l47 c47 k47
  have b47:=F47.binds (ps:=["p","things"]) λ_ _ _ _ _ _ us hl=>by obtain⟨_,_,rfl⟩:=fL hl;rfl
  have F48:=aW (st:=gX) l48 c48 k48
  have b48:=F48.binds (ps:=["p","things"]) λ_ _ _ _ _ _ us hl=>by obtain⟨_,_,rfl⟩:=fL hl;rfl
  have F49:=aW (st:=gk) l49 c49 k49
  have b49:=F49.binds (ps:=["p","things"]) λ_ _ _ _ _ _ us hl=>by obtain⟨_,_,rfl⟩:=fL hl;rfl
  have F50:=aW (st:=gY) l50 c50 k50
  have b50:=F50.binds (ps:=["p","things"]) λ_ _ _ _ _ _ us hl=>by obtain⟨_,_,rfl⟩:=fL hl;rfl
  have F51:=aW (st:=ji) l51 c51 k51
  have b51:=F51.binds (ps:=["self","p"]) λ_ _ _ _ _ _ us hl=>by obtain⟨_,_,rfl⟩:=fL hl;rfl
  have F52:=aW (st:=sJ) l52 c52 k52
  have b52:=F52.binds (ps:=["self","row"]) λ_ _ _ _ _ _ us hl=>by obtain⟨_,_,rfl⟩:=fL hl;rfl
  have F53:=aW (st:=jv) l53 c53 k53
  have b53:=F53.binds (ps:=["self","wanted","word"]) λ_ _ _ _ _ _ us hl=>by obtain⟨_,_,_,rfl⟩:=n9 hl;rfl
  have F54:=aW (st:=ju) l54 c54 k54
  have b54:=F54.binds (ps:=["self","name"]) λ_ _ _ _ _ _ us hl=>by obtain⟨_,_,rfl⟩:=fL hl;rfl
  have F55:=aW (st:=o6) l55 c55 k55
  have b55:=F55.binds (ps:=["self","name","polynomial"]) λ_ _ _ _ _ _ us hl=>by obtain⟨_,_,_,rfl⟩:=n9 hl;rfl
  have F56:=aW (st:=iu) l56 c56 k56
  have b56:=F56.binds (ps:=["script","k"]) λ_ _ _ _ _ _ us hl=>by obtain⟨_,_,rfl⟩:=fL hl;rfl
  have F57:=aW (st:=fV) l57 c57 k57
  have b57:=F57.binds (ps:=["cell"]) λ_ _ _ _ _ _ us hl=>by obtain⟨_,rfl⟩:=n8 hl;rfl
  have F58:=aW (st:=gL) l58 c58 k58
  have b58:=F58.binds (ps:=["f","g"]) λ_ _ _ _ _ _ us hl=>by obtain⟨_,_,rfl⟩:=fL hl;rfl
  have F59:=aW (st:=iw) l59 c59 k59
  have b59:=F59.binds (ps:=["p","cell","other"]) λ_ _ _ _ _ _ us hl=>by obtain⟨_,_,_,rfl⟩:=n9 hl;rfl
  have F60:=aW (st:=ix) l60 c60 k60
  have b60:=F60.binds (ps:=["p","script","start"]) λ_ _ _ _ _ _ us hl=>by obtain⟨_,_,_,rfl⟩:=n9 hl;rfl
  have F61:=aW (st:=gM) l61 c61 k61
  have b61:=F61.binds (ps:=["words"]) λ_ _ _ _ _ _ us hl=>by obtain⟨_,rfl⟩:=n8 hl;rfl
  have F62:=aW (st:=jj) l62 c62 k62
  have b62:=F62.binds (ps:=["way","p","f","cells"]) λ_ _ _ _ _ _ us hl=>by obtain⟨_,_,_,_,rfl⟩:=ES hl;rfl
  have F63:=aW (st:=jk) l63 c63 k63
  have b63:=F63.binds (ps:=["way","cells"]) λ_ _ _ _ _ _ us hl=>by obtain⟨_,_,rfl⟩:=fL hl;rfl
  have F64:=aW (st:=iy) l64 c64 k64
  have b64:=F64.binds (ps:=["desk","row"]) λ_ _ _ _ _ _ us hl=>by obtain⟨_,_,rfl⟩:=fL hl;rfl
  have F65:=aW (st:=gi) l65 c65 k65
  have b65:=F65.binds (ps:=["way","p","f","cells"]) λ_ _ _ _ _ _ us hl=>by obtain⟨_,_,_,_,rfl⟩:=ES hl;rfl
  have F66:=aW (st:=mD) l66 c66 k66
  have k_Desk:cq K "Desk"=e_Desk:=gI z_Desk
  have k_NoDepth:cq K "NoDepth"=e_NoDepth:=gI z_NoDepth
  have k_NoInverse:cq K "NoInverse"=e_NoInverse:=gI z_NoInverse
  have k_NoName:cq K "NoName"=e_NoName:=gI z_NoName
  have k_NoParts:cq K "NoParts"=e_NoParts:=gI z_NoParts
  have k_NoPrime:cq K "NoPrime"=e_NoPrime:=gI z_NoPrime
  have k_NoRow:cq K "NoRow"=e_NoRow:=gI z_NoRow
  have k_NoSingle:cq K "NoSingle"=e_NoSingle:=gI z_NoSingle
  have k_NoSmall:cq K "NoSmall"=e_NoSmall:=gI z_NoSmall
  have k_NoText:cq K "NoText"=e_NoText:=gI z_NoText
  have k_RestError:cq K "RestError"=e_RestError:=gI z_RestError
  have k_TooDeep:cq K "TooDeep"=e_TooDeep:=gI z_TooDeep
  have k_TooGreat:cq K "TooGreat"=e_TooGreat:=gI z_TooGreat
  have B:Bi mg K w:=⟨lS,PySem.W.mg_of X G lR,sA,PySem.W.mg_of X G si,sC,PySem.W.mg_of X G sj,Ai,Aj,Ak,Al,Am,An,Ao,Ap,Aq,As,Au,Av,Aw,PySem.W.mg_of X G mV,PySem.W.mg_of X G lX,PySem.W.mg_of X G mW,PySem.W.mg_of X G lW,PySem.W.mg_of X G mY,PySem.W.mg_of X G md,PySem.W.mg_of X G lY,PySem.W.mg_of X G kT,PySem.W.mg_of X G mX,PySem.W.mg_of X G lZ,PySem.W.mg_of X G kS,PySem.W.mg_of X G ma,(by rw [k_Desk];exact d9),(by rw [k_Desk];exact ng),(by rw [k_Desk];exact kX),PySem.W.mg_none_of X G z_abs,PySem.W.mg_none_of X G z_all,PySem.W.mg_none_of X G z_bool,PySem.W.mg_none_of X G z_enumerate,PySem.W.mg_none_of X G z_int,PySem.W.mg_none_of X G z_isinstance,PySem.W.mg_none_of X G z_len,PySem.W.mg_none_of X G z_list,PySem.W.mg_none_of X G z_max,PySem.W.mg_none_of X G z_min,PySem.W.mg_none_of X G z_range,PySem.W.mg_none_of X G z_reversed,PySem.W.mg_none_of X G z_sorted,PySem.W.mg_none_of X G z_str,PySem.W.mg_none_of X G z_sum,PySem.W.mg_none_of X G z_zip,⟨_,PySem.W.mg_of X G z_FIGURES⟩,⟨_,PySem.W.mg_of X G z_GREATEST_DEPTH⟩,⟨_,PySem.W.mg_of X G z_GREATEST_PRIME⟩,⟨_,PySem.W.mg_of X G z_LETTERS⟩,⟨_,PySem.W.mg_of X G z_MOST_FIGURES⟩,⟨_,PySem.W.mg_of X G z_MOST_LETTERS⟩,⟨_,PySem.W.mg_of X G z_MOST_NUMBERS⟩,(by rw [k_Desk];exact PySem.W.mg_of X G z_Desk),(by rw [k_NoDepth];exact PySem.W.mg_of X G z_NoDepth),(by rw [k_NoInverse];exact PySem.W.mg_of X G z_NoInverse),(by rw [k_NoName];exact PySem.W.mg_of X G z_NoName),(by rw [k_NoParts];exact PySem.W.mg_of X G z_NoParts),(by rw [k_NoPrime];exact PySem.W.mg_of X G z_NoPrime),(by rw [k_NoRow];exact PySem.W.mg_of X G z_NoRow),(by rw [k_NoSingle];exact PySem.W.mg_of X G z_NoSingle),(by rw [k_NoSmall];exact PySem.W.mg_of X G z_NoSmall),(by rw [k_NoText];exact PySem.W.mg_of X G z_NoText),(by rw [k_RestError];exact PySem.W.mg_of X G z_RestError),(by rw [k_TooDeep];exact PySem.W.mg_of X G z_TooDeep),(by rw [k_TooGreat];exact PySem.W.mg_of X G z_TooGreat),(by rw [k_NoDepth];exact oa),(by rw [k_NoSingle];exact qf),(by rw [k_NoSmall];exact rY),(by rw [k_TooDeep];exact rZ),(by rw [k_TooGreat];exact qg),(by simp only [k_NoDepth,k_RestError];exact iO),(by simp only [k_NoSingle,k_RestError];exact ie),(by simp only [k_NoSmall,k_RestError];exact iP),(by simp only [k_TooDeep,k_RestError];exact iQ),(by rw [k_NoDepth];exact rf),(by rw [k_NoSingle];exact pG),(by rw [k_NoSmall];exact rg),(by rw [k_TooDeep];exact rh),ki⟩
  refine⟨PySem.W.fnOf "law" "law" (aH mD) (aE mD) (aj mD) .none kV66 dc66 pm66 an66 cd66 ct66,λs v=>.of_eq rfl,λbase _ _=>?_⟩
  have D_is_prime:=cw (P:=P) (w:=w) (base:=base) F1 (Bg B  F1) b1 (PySem.W.mg_of X G a1)
  have D_depth_of:=cw (P:=P) (w:=w) (base:=base) F2 (Bf B  F2) b2 (PySem.W.mg_of X G a2)
  have D_power_of:=cw (P:=P) (w:=w) (base:=base) F3 (Bh B  F3) b3 (PySem.W.mg_of X G a3)
  have D_inverse_by_prime:=cw (P:=P) (w:=w) (base:=base) F4 (qD B  F4) b4 (PySem.W.mg_of X G a4)
  have D_rises_more:=cw (P:=P) (w:=w) (base:=base) F7 (xM B  F7) b7 (PySem.W.mg_of X G a7)
  have D_first_small_row:=cw (P:=P) (w:=w) (base:=base) F10 (rF B  F10) b10 (PySem.W.mg_of X G a10)
  have D_worth_at:=cw (P:=P) (w:=w) (base:=base) F12 (Bn B  F12) b12 (PySem.W.mg_of X G a12)
  have D_degree_of:=cw (P:=P) (w:=w) (base:=base) F13 (zo B  F13) b13 (PySem.W.mg_of X G a13)
  have D_poly_product:=cw (P:=P) (w:=w) (base:=base) F14 (vj B  F14) b14 (PySem.W.mg_of X G a14)
  have D_slope_of:=cw (P:=P) (w:=w) (base:=base) F15 (Bj B  F15) b15 (PySem.W.mg_of X G a15)
  have D_is_made_of:=cw (P:=P) (w:=w) (base:=base) F29 (xH B  F29) b29 (PySem.W.mg_of X G a29)
  have D_show_poly:=cw (P:=P) (w:=w) (base:=base) F34 (zw B  F34) b34 (PySem.W.mg_of X G a34)
  have D_words_of:=cw (P:=P) (w:=w) (base:=base) F35 (Bm B  F35) b35 (PySem.W.mg_of X G a35)
  have D_listed:=cw (P:=P) (w:=w) (base:=base) F38 (Ec B  F38) b38 (PySem.W.mg_of X G a38)
  have D_made_poly:=dF (P:=P) (w:=w) (base:=base) F39 (zp B  F39) b39 (PySem.W.mg_of X G a39)
  have D_standing:Met P w K mg base cY (cq K "Desk") "standing" 1 ["self","name"] (fN K):=⟨⟨f54,_,Bk B  F54,b54,(by rw [k_Desk];exact⟨a54,n54,k54⟩)⟩⟩
  have D__law_cell:=cw (P:=P) (w:=w) (base:=base) F56 (zi B  F56) b56 (PySem.W.mg_of X G a56)
  have D__law_prime:=cw (P:=P) (w:=w) (base:=base) F57 (xC B  F57) b57 (PySem.W.mg_of X G a57)
  have D__law_times:=cw (P:=P) (w:=w) (base:=base) F58 (xD B  F58) b58 (PySem.W.mg_of X G a58)
  have D__law_part:=cw (P:=P) (w:=w) (base:=base) F59 (zj B  F59) b59 (PySem.W.mg_of X G a59)
  have D__law_words:=cw (P:=P) (w:=w) (base:=base) F61 (xE B  F61) b61 (PySem.W.mg_of X G a61)
  have D__law_row:=cw (P:=P) (w:=w) (base:=base) F63 (Bc B  F63) b63 (PySem.W.mg_of X G a63)
  have D_inverse_of:=cw (P:=P) (w:=w) (base:=base) F5 (xG B D_power_of D_inverse_by_prime F5) b5 (PySem.W.mg_of X G a5)
  have D_ball_of:=cw (P:=P) (w:=w) (base:=base) F6 (CN B D_power_of F6) b6 (PySem.W.mg_of X G a6)
  have D_add_side:=cw (P:=P) (w:=w) (base:=base) F8 (Bd B D_rises_more F8) b8 (PySem.W.mg_of X G a8)
  have D_small_fraction:=dF (P:=P) (w:=w) (base:=base) F11 (sU B D_power_of D_first_small_row F11) b11 (PySem.W.mg_of X G a11)
  have D_seen_from:=cw (P:=P) (w:=w) (base:=base) F16 (zu B D_power_of D_poly_product F16) b16 (PySem.W.mg_of X G a16)
  have D_content_of:=dF (P:=P) (w:=w) (base:=base) F17 (xF B D_degree_of F17) b17 (PySem.W.mg_of X G a17)
  have D_rests_by_prime:=cw (P:=P) (w:=w) (base:=base) F19 (sT B D_worth_at F19) b19 (PySem.W.mg_of X G a19)
  have D_single_depth:=cw (P:=P) (w:=w) (base:=base) F20 (vm B D_depth_of D_power_of D_worth_at D_slope_of F20) b20 (PySem.W.mg_of X G a20)
  have D_divides_every_worth:=cw (P:=P) (w:=w) (base:=base) F25 (ot B D_power_of D_worth_at F25) b25 (PySem.W.mg_of X G a25)
  have D_is_written_number:=cw (P:=P) (w:=w) (base:=base) F30 (pT B D_is_made_of F30) b30 (PySem.W.mg_of X G a30)
  have D_can_be_written:=cw (P:=P) (w:=w) (base:=base) F31 (sR B D_power_of F31) b31 (PySem.W.mg_of X G a31)
  have D_read_name:=cw (P:=P) (w:=w) (base:=base) F36 (zr B D_is_made_of F36) b36 (PySem.W.mg_of X G a36)
  have D_made_times:=dF (P:=P) (w:=w) (base:=base) F40 (xJ B D_poly_product F40) b40 (PySem.W.mg_of X G a40)
  have D_made_slope:=dF (P:=P) (w:=w) (base:=base) F42 (xI B D_slope_of F42) b42 (PySem.W.mg_of X G a42)
  have D_told_show:=dF (P:=P) (w:=w) (base:=base) F43 (zy B D_show_poly F43) b43 (PySem.W.mg_of X G a43)
  have D___init__:Ik P w K mg base (cq K "Desk") 2 ["self","p"] (bJ K):=⟨⟨f51,_,Ba B D_is_prime F51,b51,(by rw [k_Desk];exact⟨mk_Desk,a51,n51,kc_Desk⟩)⟩⟩
  have D__law_poly:=cw (P:=P) (w:=w) (base:=base) F60 (zk B D__law_cell D__law_times D__law_part F60) b60 (PySem.W.mg_of X G a60)
  have D_border_of:=dF (P:=P) (w:=w) (base:=base) F9 (zm B D_depth_of D_add_side F9) b9 (PySem.W.mg_of X G a9)
  have D_without_content:=dF (P:=P) (w:=w) (base:=base) F18 (rG B D_power_of D_content_of F18) b18 (PySem.W.mg_of X G a18)
  have D_deepened:=cw (P:=P) (w:=w) (base:=base) F22 (Be B D_power_of D_inverse_of D_worth_at D_slope_of F22) b22 (PySem.W.mg_of X G a22)
  have D_read_number:=cw (P:=P) (w:=w) (base:=base) F32 (v5 B D_is_written_number F32) b32 (PySem.W.mg_of X G a32)
  have D_made_seen:=dF (P:=P) (w:=w) (base:=base) F41 (zq B D_seen_from F41) b41 (PySem.W.mg_of X G a41)
  have D_told_single:=dF (P:=P) (w:=w) (base:=base) F46 (v8 B D_single_depth F46) b46 (PySem.W.mg_of X G a46)
  have D_told_small:=dF (P:=P) (w:=w) (base:=base) F50 (xP B D_ball_of D_small_fraction F50) b50 (PySem.W.mg_of X G a50)
  have D_keep:Met P w K mg base cY (cq K "Desk") "keep" 3 ["self","name","polynomial"] (fT K):=⟨⟨f55,_,Hr B D_can_be_written F55,b55,(by rw [k_Desk];exact⟨a55,n55,k55⟩)⟩⟩
  have T_MADE:mr P w K mg base (eh P w) 3 (pA K):=jQ (gq B.mV D_made_poly.ex) (jQ (gq B.lX D_made_times.ex) (jQ (gq B.mW D_made_seen.ex) (gq B.lW D_made_slope.ex)))
  have D_root_of:=dF (P:=P) (w:=w) (base:=base) F21 (CO B D_power_of D_single_depth D_deepened F21) b21 (PySem.W.mg_of X G a21)
  have D_read_poly:=cw (P:=P) (w:=w) (base:=base) F33 (zt B D_read_number F33) b33 (PySem.W.mg_of X G a33)
  have D_read_depth:=cw (P:=P) (w:=w) (base:=base) F37 (xK B D_read_number F37) b37 (PySem.W.mg_of X G a37)
  have D_told_border:=dF (P:=P) (w:=w) (base:=base) F49 (v7 B D_border_of D_listed F49) b49 (PySem.W.mg_of X G a49)
  have D_told_root:=dF (P:=P) (w:=w) (base:=base) F47 (zx B D_root_of F47) b47 (PySem.W.mg_of X G a47)
  have D_thing_of:Met P w K mg base cY (cq K "Desk") "thing_of" 5 ["self","wanted","word"] (dI K):=⟨⟨f53,_,Bl B D_read_number D_read_poly D_read_name D_read_depth D_standing F53,b53,(by rw [k_Desk];exact⟨a53,n53,k53⟩)⟩⟩
  have D_roots_within:=HH (P:=P) (w:=w) (base:=base) (sp:=ij K) F23 b23 (PySem.W.mg_of X G a23) 4 (λn d=>vk B D_power_of D_worth_at D_slope_of D_seen_from D_without_content D_rests_by_prime D_root_of d F23) 60
  have D_endless_roots:=dF (P:=P) (w:=w) (base:=base) F24 (uk B D_roots_within F24) b24 (PySem.W.mg_of X G a24)
  have D_solving_balls_within:=Jw (P:=P) (w:=w) (base:=base) (sp:=eS K) F26 b26 (PySem.W.mg_of X G a26) 3 (λn d=>nI B D_power_of D_seen_from D_content_of D_without_content D_rests_by_prime D_divides_every_worth d F26) 62
  have D_solving_balls:=cw (P:=P) (w:=w) (base:=base) F27 (um B D_solving_balls_within F27) b27 (PySem.W.mg_of X G a27)
  have D_told_roots:=dF (P:=P) (w:=w) (base:=base) F48 (xO B D_endless_roots D_listed F48) b48 (PySem.W.mg_of X G a48)
  have D_solving_rests:=cw (P:=P) (w:=w) (base:=base) F28 (uo B D_power_of D_solving_balls F28) b28 (PySem.W.mg_of X G a28)
  have D_told_solve:=dF (P:=P) (w:=w) (base:=base) F44 (xQ B D_solving_balls D_listed F44) b44 (PySem.W.mg_of X G a44)
  have D_told_count:=dF (P:=P) (w:=w) (base:=base) F45 (xN B D_solving_rests F45) b45 (PySem.W.mg_of X G a45)
  have D__law_due:=dF (P:=P) (w:=w) (base:=base) F62 (Bb B D_ball_of D_border_of D_small_fraction D_single_depth D_root_of D_endless_roots D_solving_balls D_solving_rests D__law_words F62) b62 (PySem.W.mg_of X G a62)
  have T_TOLD:mr P w K mg base (eh P w) 69 (pB K):=jQ (gq B.mY D_told_show.ex) (jQ (gq B.md D_told_solve.ex) (jQ (gq B.lY D_told_count.ex) (jQ (gq B.kT D_told_single.ex) (jQ (gq B.mX D_told_root.ex) (jQ (gq B.lZ D_told_roots.ex) (jQ (gq B.kS D_told_border.ex) (gq B.ma D_told_small.ex)))))))
  have D_say:Met P w K mg base (eh P w) (cq K "Desk") "say" 70 ["self","row"] (cJ K):=⟨⟨f52,_,Jf B T_TOLD T_MADE D_words_of D_thing_of D_keep F52,b52,(by rw [k_Desk];exact⟨a52,n52,k52⟩)⟩⟩
  have D__law_wanted:=cw (P:=P) (w:=w) (base:=base) F65 (vZ B D__law_due F65) b65 (PySem.W.mg_of X G a65)
  have D__law_said:=cw (P:=P) (w:=w) (base:=base) F64 (zl B D_say F64) b64 (PySem.W.mg_of X G a64)
  exact Je B D___init__ D_say D__law_cell D__law_prime D__law_poly D__law_row D__law_said D__law_wanted F66
end
end K83
namespace PySem.W.Fast
theorem tw17307767461802870451:True:=.intro
theorem tw3109422403775889238:True:=.intro
theorem tw8845679926652927008:True:=.intro
theorem tw11782907441087483936:True:=.intro
theorem tw17663315136785019936:True:=.intro
theorem tw12496523625153150016:True:=.intro
theorem tw6078759957583631520:True:=.intro
theorem tw67271986112621792:True:=.intro
theorem tw16657429928074989856:True:=.intro
theorem tw7444393427145536832:True:=.intro
theorem tw10121549904503691648:True:=.intro
theorem tw18001746063967327648:True:=.intro
theorem tw2537149652417675744:True:=.intro
theorem tw6675447661801731552:True:=.intro
theorem tw18357928056391537184:True:=.intro
theorem tw11872077545641369120:True:=.intro
theorem tw11863243185620715200:True:=.intro
theorem tw9946391772501093056:True:=.intro
theorem tw5743769797701621472:True:=.intro
theorem tw6262876494316021664:True:=.intro
theorem tw17904766578110593984:True:=.intro
theorem tw1653618733132482528:True:=.intro
theorem tw18087050122334202848:True:=.intro
theorem tw5348450528753723393:True:=.intro
theorem tw2507762710606965761:True:=.intro
theorem tw208334908752860225:True:=.intro
theorem tw5155763780344613025:True:=.intro
theorem tw15417796410731300065:True:=.intro
theorem tw16675524419741321441:True:=.intro
theorem tw11020519833785368897:True:=.intro
theorem tw10246459962440385985:True:=.intro
theorem tw16472256021109333569:True:=.intro
theorem tw6506759586493638241:True:=.intro
theorem tw6641325743240496769:True:=.intro
theorem tw9819868731088553633:True:=.intro
theorem tw10015438975818758881:True:=.intro
theorem tw10791226703255731937:True:=.intro
theorem tw17125429448177673985:True:=.intro
theorem tw14056152577237438241:True:=.intro
theorem tw982300458567290721:True:=.intro
theorem tw9843205207160893313:True:=.intro
theorem tw13001287400494700481:True:=.intro
theorem tw10395676407802348513:True:=.intro
theorem tw11923176965694637025:True:=.intro
theorem tw17254988207194575874:True:=.intro
theorem tw13462143893904620546:True:=.intro
theorem tw14337379306364343330:True:=.intro
theorem tw6038162089187157026:True:=.intro
theorem tw12293651962170727490:True:=.intro
theorem tw11173533634888564834:True:=.intro
theorem tw6143921814474117346:True:=.intro
theorem tw17509071733941936418:True:=.intro
theorem tw11508411579654920546:True:=.intro
theorem tw4845481859553608066:True:=.intro
theorem tw16959295165401519490:True:=.intro
theorem tw1875358095982101922:True:=.intro
theorem tw9301545965936862626:True:=.intro
theorem tw16405667049477678530:True:=.intro
theorem tw6278550423861904834:True:=.intro
theorem tw15423727305998030274:True:=.intro
theorem tw16096209814139064834:True:=.intro
theorem tw7638188670689400354:True:=.intro
theorem tw1096264428943686210:True:=.intro
theorem tw14805191100149753410:True:=.intro
theorem tw7584468880427257602:True:=.intro
theorem tw9606083356685697826:True:=.intro
theorem tw9708614558030049058:True:=.intro
theorem tw7548317270632291138:True:=.intro
theorem tw96031714854250370:True:=.intro
theorem tw6187507833621305218:True:=.intro
theorem tw10883690153141864354:True:=.intro
theorem tw18234333740462207906:True:=.intro
theorem tw4675835641284083971:True:=.intro
theorem tw9480735533122582819:True:=.intro
theorem tw162987869435017539:True:=.intro
theorem tw1241716785402242467:True:=.intro
theorem tw17478933450801120739:True:=.intro
theorem tw8186847138666965603:True:=.intro
theorem tw6961534883766838883:True:=.intro
theorem tw9809033434135769859:True:=.intro
theorem tw952916620524517155:True:=.intro
theorem tw12356581854124625763:True:=.intro
theorem tw4840267534466782051:True:=.intro
theorem tw808056373751543844:True:=.intro
theorem tw9484495584775265316:True:=.intro
theorem tw1536235678192656452:True:=.intro
theorem tw588535590357894212:True:=.intro
theorem tw14346082851268791588:True:=.intro
theorem tw4575831712790773156:True:=.intro
theorem tw4381070324161046980:True:=.intro
theorem tw3621509909327128004:True:=.intro
theorem tw9643152463468508708:True:=.intro
theorem tw11111928986259648100:True:=.intro
theorem tw15665951478021406308:True:=.intro
theorem tw471246418707965572:True:=.intro
theorem tw321886666298352388:True:=.intro
theorem tw3021155524778881828:True:=.intro
theorem tw8153466912876884037:True:=.intro
theorem tw15946279101889584197:True:=.intro
theorem tw7700201467752566885:True:=.intro
theorem tw720815838247476325:True:=.intro
theorem tw4315425502244776197:True:=.intro
theorem tw13111718495614807493:True:=.intro
theorem tw15881375403406498277:True:=.intro
theorem tw13700763565045961349:True:=.intro
theorem tw12882511255056933541:True:=.intro
theorem tw17564744266452984517:True:=.intro
theorem tw9642868814154823365:True:=.intro
theorem tw5085023867748022981:True:=.intro
theorem tw242000648061370085:True:=.intro
theorem tw9918376829998675717:True:=.intro
theorem tw15311341420301162341:True:=.intro
theorem tw1258231842547327909:True:=.intro
theorem tw17825488116340848806:True:=.intro
theorem tw16442739218788552902:True:=.intro
theorem tw7204278886369888486:True:=.intro
theorem tw2022588884612776230:True:=.intro
theorem tw15032916843040442726:True:=.intro
theorem tw8594380069335512422:True:=.intro
theorem tw5806387540563455334:True:=.intro
theorem tw10826980383431722438:True:=.intro
theorem tw15633353964408167910:True:=.intro
theorem tw9000416343938184710:True:=.intro
theorem tw10127238618990571014:True:=.intro
theorem tw16951379681556377126:True:=.intro
theorem tw3250252644969989734:True:=.intro
theorem tw2850183236239176294:True:=.intro
theorem tw14632493205270780550:True:=.intro
theorem tw16631480722659521158:True:=.intro
theorem tw8759406721067444934:True:=.intro
theorem tw1123724974929618662:True:=.intro
theorem tw17446828476678703910:True:=.intro
theorem tw14042776453904832326:True:=.intro
theorem tw3667421470831351654:True:=.intro
theorem tw736338777246131174:True:=.intro
theorem tw17640379611542000711:True:=.intro
theorem tw1737182409237302343:True:=.intro
theorem tw12301319022669227175:True:=.intro
theorem tw9460641639762162855:True:=.intro
theorem tw11120505073578435815:True:=.intro
theorem tw4892643960802882823:True:=.intro
theorem tw8410612626972424455:True:=.intro
theorem tw5475139728901052807:True:=.intro
theorem tw13191092889459244455:True:=.intro
theorem tw15142574817824794087:True:=.intro
theorem tw11552423159016414695:True:=.intro
theorem tw8975466350917270151:True:=.intro
theorem tw362893152275851911:True:=.intro
theorem tw9397415657501174599:True:=.intro
theorem tw7983312114841766759:True:=.intro
theorem tw10832704080971441031:True:=.intro
theorem tw3699199021583344519:True:=.intro
theorem tw16553477395461556103:True:=.intro
theorem tw1053063534061307783:True:=.intro
theorem tw16775953875331406759:True:=.intro
theorem tw11032932328218028967:True:=.intro
theorem tw9222623214885797863:True:=.intro
theorem tw9541031031378576392:True:=.intro
theorem tw10304160525985950760:True:=.intro
theorem tw14508342662566115368:True:=.intro
theorem tw6640191882964611144:True:=.intro
theorem tw10822556157444466792:True:=.intro
theorem tw16782183960691092584:True:=.intro
theorem tw3145239563261445288:True:=.intro
theorem tw15970375369959506152:True:=.intro
theorem tw9364315339238640936:True:=.intro
theorem tw15573128792774858024:True:=.intro
theorem tw7224135168210902472:True:=.intro
theorem tw8643191143609052648:True:=.intro
theorem tw15125351924511789640:True:=.intro
theorem tw5879294415913430632:True:=.intro
theorem tw14546732770023978632:True:=.intro
theorem tw1186233965761049384:True:=.intro
theorem tw6917829986923380520:True:=.intro
theorem tw5874458429644930888:True:=.intro
theorem tw1925814333802917768:True:=.intro
theorem tw12837081593243995048:True:=.intro
theorem tw8026605958456259496:True:=.intro
theorem tw12224988301112213416:True:=.intro
theorem tw12545575103948456969:True:=.intro
theorem tw13129863350583748713:True:=.intro
theorem tw2829638213115492457:True:=.intro
theorem tw9016739804621273225:True:=.intro
theorem tw3206300570876828041:True:=.intro
theorem tw9509314087680608681:True:=.intro
theorem tw14769623093735716265:True:=.intro
theorem tw10922050321670128105:True:=.intro
theorem tw6934145605472905705:True:=.intro
theorem tw2090268293152998921:True:=.intro
theorem tw13660359055106361897:True:=.intro
theorem tw10442464211297943081:True:=.intro
theorem tw5310275828795016777:True:=.intro
theorem tw13875372840545124969:True:=.intro
theorem tw13447668268820792969:True:=.intro
theorem tw14806141229208349353:True:=.intro
theorem tw5129676153159781289:True:=.intro
theorem tw7806754876410134505:True:=.intro
theorem tw20768199031257065:True:=.intro
theorem tw1427695506341000234:True:=.intro
theorem tw7740923615435656298:True:=.intro
theorem tw10332837299234195562:True:=.intro
theorem tw16175923971187894410:True:=.intro
theorem tw6267771959303206090:True:=.intro
theorem tw16897787118064190762:True:=.intro
theorem tw17657985521063795050:True:=.intro
theorem tw3323528441485661578:True:=.intro
theorem tw3995145320853065162:True:=.intro
theorem tw15464893106512763434:True:=.intro
theorem tw4841908425629380202:True:=.intro
theorem tw10910195945804211946:True:=.intro
theorem tw7107882456113543978:True:=.intro
theorem tw9026816126358761258:True:=.intro
theorem tw778793551170143050:True:=.intro
theorem tw14394320385673305962:True:=.intro
theorem tw5913598074150884234:True:=.intro
theorem tw11347853117202189515:True:=.intro
theorem tw15206876982321167595:True:=.intro
theorem tw2609967623682433259:True:=.intro
theorem tw12544904629114390795:True:=.intro
theorem tw4411388071947499819:True:=.intro
theorem tw1445830042625945963:True:=.intro
theorem tw7653852406051504555:True:=.intro
theorem tw11797598016062755275:True:=.intro
theorem tw14243266550961495499:True:=.intro
theorem tw13336976757860790763:True:=.intro
theorem tw11386019303196182091:True:=.intro
theorem tw12056358354386961003:True:=.intro
theorem tw15139628489373644427:True:=.intro
theorem tw8468629372211707531:True:=.intro
theorem tw6687643985905253067:True:=.intro
theorem tw13811494444529894155:True:=.intro
theorem tw15511391878456389387:True:=.intro
theorem tw9703489462553895723:True:=.intro
theorem tw11698669089713155883:True:=.intro
theorem tw9771085889817414475:True:=.intro
theorem tw15207029765308988235:True:=.intro
theorem tw14475928219181770571:True:=.intro
theorem tw5361763892008474475:True:=.intro
theorem tw7088638176441161611:True:=.intro
theorem tw15860681134537146315:True:=.intro
theorem tw19151133477363659:True:=.intro
theorem tw4315087993358140428:True:=.intro
theorem tw1332645247785192652:True:=.intro
theorem tw446941827891908908:True:=.intro
theorem tw16754697266083612044:True:=.intro
theorem tw17478003148915346828:True:=.intro
theorem tw12149512044439799212:True:=.intro
theorem tw16582378811961472492:True:=.intro
theorem tw8039349149328005644:True:=.intro
theorem tw5026592389665187340:True:=.intro
theorem tw13216809032225224204:True:=.intro
theorem tw354597500225796684:True:=.intro
theorem tw9940868665785034348:True:=.intro
theorem tw10584109559452767916:True:=.intro
theorem tw13541915177448698540:True:=.intro
theorem tw9036120132154050252:True:=.intro
theorem tw14931598053684813548:True:=.intro
theorem tw12199873977391682348:True:=.intro
theorem tw12794147296562188108:True:=.intro
theorem tw17597818103614609260:True:=.intro
theorem tw12111110583068433292:True:=.intro
theorem tw4670146738999680940:True:=.intro
theorem tw15300517783878870029:True:=.intro
theorem tw7259238661247255629:True:=.intro
theorem tw14315732220299354285:True:=.intro
theorem tw3790166763272009901:True:=.intro
theorem tw4912421992618513613:True:=.intro
theorem tw1829829795570992365:True:=.intro
theorem tw16347207731011537133:True:=.intro
theorem tw8437077566124211469:True:=.intro
theorem tw2148351093709854125:True:=.intro
theorem tw5984027187953797677:True:=.intro
theorem tw4972253547038784045:True:=.intro
theorem tw16035899484760424013:True:=.intro
theorem tw12581594422373592717:True:=.intro
theorem tw15843002113953823373:True:=.intro
theorem tw5435936753494897325:True:=.intro
theorem tw8265764989049456301:True:=.intro
theorem tw9838241542636033741:True:=.intro
theorem tw9524546522281240333:True:=.intro
theorem tw6543248488832375597:True:=.intro
theorem tw13111100956155410253:True:=.intro
theorem tw6721939807597634541:True:=.intro
theorem tw11092706575178598414:True:=.intro
theorem tw6536265669607999534:True:=.intro
theorem tw178766773340532846:True:=.intro
theorem tw1763389598548823182:True:=.intro
theorem tw1256425664748448942:True:=.intro
theorem tw7116816590340925646:True:=.intro
theorem tw12841226195542920398:True:=.intro
theorem tw1538025759217967438:True:=.intro
theorem tw13377356173384103310:True:=.intro
theorem tw4619348814074805678:True:=.intro
theorem tw1759796230628980206:True:=.intro
theorem tw15424627228655603214:True:=.intro
theorem tw18251171628464783054:True:=.intro
theorem tw16044703267370917582:True:=.intro
theorem tw1659496461044737902:True:=.intro
theorem tw14066467839432204142:True:=.intro
theorem tw6903387197468652494:True:=.intro
theorem tw16652472323601552366:True:=.intro
theorem tw8846162064570949647:True:=.intro
theorem tw13040941828941489231:True:=.intro
theorem tw8519457754390484047:True:=.intro
theorem tw9465271982032648399:True:=.intro
theorem tw9115955241121807599:True:=.intro
theorem tw16509035182843984143:True:=.intro
theorem tw18346817070063467791:True:=.intro
theorem tw4398696816173945135:True:=.intro
theorem tw5642038369303928111:True:=.intro
theorem tw10510726492809881935:True:=.intro
theorem tw700371986084338031:True:=.intro
theorem tw5222670217144899119:True:=.intro
theorem tw541987923900933743:True:=.intro
theorem tw13089332458426740367:True:=.intro
theorem tw7943861830874381007:True:=.intro
theorem tw17012376080651369199:True:=.intro
theorem tw13665089652079296335:True:=.intro
theorem tw9489149493564136303:True:=.intro
theorem tw17074568061066542959:True:=.intro
theorem tw11689273597581589423:True:=.intro
theorem tw10907534132463993839:True:=.intro
theorem tw2936831100799219728:True:=.intro
theorem tw18359344844876874768:True:=.intro
theorem tw3842773429067560976:True:=.intro
theorem tw10578372702333179952:True:=.intro
theorem tw900885129628175408:True:=.intro
theorem tw1450407062442053872:True:=.intro
theorem tw4913298608879247632:True:=.intro
theorem tw14107719843085229488:True:=.intro
theorem tw3777643551000410544:True:=.intro
theorem tw11185063861053349296:True:=.intro
theorem tw10636476928639555024:True:=.intro
theorem tw10422949284954901968:True:=.intro
theorem tw15597591136235899376:True:=.intro
theorem tw9052163136266959376:True:=.intro
theorem tw11170689907295757872:True:=.intro
theorem tw5149869502757405360:True:=.intro
theorem tw84635094121359024:True:=.intro
theorem tw11992189358140290736:True:=.intro
theorem tw13764655332082744112:True:=.intro
theorem tw1644622384507376496:True:=.intro
theorem tw8826205745393506224:True:=.intro
theorem tw4232147474514388976:True:=.intro
theorem tw16744817191980205073:True:=.intro
theorem tw18225876431664012369:True:=.intro
theorem tw9093646183631416401:True:=.intro
theorem tw18333237042548567153:True:=.intro
theorem tw15410759876920276113:True:=.intro
theorem tw17828122789651906769:True:=.intro
theorem tw11042962913268448561:True:=.intro
theorem tw9234266852077697393:True:=.intro
theorem tw13720088771589555601:True:=.intro
theorem tw8212381624216202705:True:=.intro
theorem tw17772891791904650769:True:=.intro
theorem tw5758704429297974801:True:=.intro
theorem tw6875168693843126801:True:=.intro
theorem tw14795360350240695857:True:=.intro
theorem tw11064652605276782129:True:=.intro
theorem tw17750262261582170705:True:=.intro
theorem tw12116054772355580561:True:=.intro
theorem tw8738833300023960273:True:=.intro
theorem tw16920832081602881265:True:=.intro
theorem tw8357358780273861361:True:=.intro
theorem tw7295182726181586769:True:=.intro
theorem tw9394359349388541841:True:=.intro
theorem tw8806979781169141713:True:=.intro
theorem tw6917948522685042673:True:=.intro
theorem tw12281759212690204690:True:=.intro
theorem tw11302747892738955378:True:=.intro
theorem tw6997097261582542962:True:=.intro
theorem tw17226906747957769330:True:=.intro
theorem tw4153940252066897138:True:=.intro
theorem tw2257812432834474290:True:=.intro
theorem tw10548552609248555314:True:=.intro
theorem tw1757531988136942898:True:=.intro
theorem tw12570311776373732818:True:=.intro
theorem tw58665140168442386:True:=.intro
theorem tw14495461474014785106:True:=.intro
theorem tw6564042836903060082:True:=.intro
theorem tw11983168736270591634:True:=.intro
theorem tw2951940845539523250:True:=.intro
theorem tw5446385191820718770:True:=.intro
theorem tw10570712221112601298:True:=.intro
theorem tw2360751878950501074:True:=.intro
theorem tw14468997992777598674:True:=.intro
theorem tw253633749764735730:True:=.intro
theorem tw17807068489382379346:True:=.intro
theorem tw4173454141081818002:True:=.intro
theorem tw14805257379269332882:True:=.intro
theorem tw11181957154991404946:True:=.intro
theorem tw16216305397035390898:True:=.intro
theorem tw4116270868853613554:True:=.intro
theorem tw8150745794600643570:True:=.intro
theorem tw17056036998535498931:True:=.intro
theorem tw255058704663253267:True:=.intro
theorem tw4638715628163393811:True:=.intro
theorem tw17960214203634774291:True:=.intro
theorem tw11772539745452288339:True:=.intro
theorem tw4357844932034386387:True:=.intro
theorem tw14548021486008561139:True:=.intro
theorem tw10662831098387295731:True:=.intro
theorem tw14579163909541007891:True:=.intro
theorem tw12130473720893934099:True:=.intro
theorem tw9710076597976200819:True:=.intro
theorem tw8863391314781233811:True:=.intro
theorem tw9137546088548381363:True:=.intro
theorem tw1076015319416850131:True:=.intro
theorem tw9188097753619336915:True:=.intro
theorem tw14240478932233363187:True:=.intro
theorem tw10654700869759338291:True:=.intro
theorem tw329274606176999283:True:=.intro
theorem tw9607481748995197843:True:=.intro
theorem tw3712977583820544915:True:=.intro
theorem tw11050737617814233043:True:=.intro
theorem tw10478429969199336692:True:=.intro
theorem tw2373666023454867732:True:=.intro
theorem tw16162400627052001556:True:=.intro
theorem tw5968455455469859092:True:=.intro
theorem tw7362273981747828052:True:=.intro
theorem tw5618754819597824436:True:=.intro
theorem tw14589272876140619284:True:=.intro
theorem tw15354213847452094004:True:=.intro
theorem tw17564458786391237204:True:=.intro
theorem tw5093093824008950388:True:=.intro
theorem tw7900396558897883828:True:=.intro
theorem tw2564052572211739348:True:=.intro
theorem tw1654004442563061460:True:=.intro
theorem tw858087052326212372:True:=.intro
theorem tw13900079460257770292:True:=.intro
theorem tw16188310917089353524:True:=.intro
theorem tw9372773401091458900:True:=.intro
theorem tw382002267690084212:True:=.intro
theorem tw6405388884078173044:True:=.intro
theorem tw8591804584413026196:True:=.intro
theorem tw2617052674756302804:True:=.intro
theorem tw17014071326042108916:True:=.intro
theorem tw10007872996111758421:True:=.intro
theorem tw14742427237449479253:True:=.intro
theorem tw17685286579037693013:True:=.intro
theorem tw13575818875551255669:True:=.intro
theorem tw9160112660301054069:True:=.intro
theorem tw1072678108437702805:True:=.intro
theorem tw3209455584878544053:True:=.intro
theorem tw836237338161820885:True:=.intro
theorem tw16087789214833543413:True:=.intro
theorem tw14288573039706256661:True:=.intro
theorem tw11683284899438410037:True:=.intro
theorem tw9661527024021375317:True:=.intro
theorem tw2808490337066603925:True:=.intro
theorem tw13412541435668958709:True:=.intro
theorem tw9233134304926352917:True:=.intro
theorem tw7266946798014294581:True:=.intro
theorem tw8534689178337721909:True:=.intro
theorem tw9924881847215251125:True:=.intro
theorem tw2286249876368462549:True:=.intro
theorem tw16461909280273028885:True:=.intro
theorem tw1047114108068238197:True:=.intro
theorem tw844382067820324789:True:=.intro
theorem tw8379802809039542229:True:=.intro
theorem tw6447515398278745077:True:=.intro
theorem tw9256505013187207190:True:=.intro
theorem tw10353191696960755798:True:=.intro
theorem tw10786705139094775926:True:=.intro
theorem tw17678811437397829782:True:=.intro
theorem tw4156758819046529366:True:=.intro
theorem tw15419948162161547606:True:=.intro
theorem tw568319009705205078:True:=.intro
theorem tw8640381375241648470:True:=.intro
theorem tw4721836010293266806:True:=.intro
theorem tw13673128532663800278:True:=.intro
theorem tw9706223815428509174:True:=.intro
theorem tw6218753607778255382:True:=.intro
theorem tw17283563085419544150:True:=.intro
theorem tw16031111152568659542:True:=.intro
theorem tw13284112037556469366:True:=.intro
theorem tw9939047822443984566:True:=.intro
theorem tw10084944017253094102:True:=.intro
theorem tw15326995309768954646:True:=.intro
theorem tw16680473272367050582:True:=.intro
theorem tw3491061534613534550:True:=.intro
theorem tw2263647690414411766:True:=.intro
theorem tw15488461306703432727:True:=.intro
theorem tw11144594654140204087:True:=.intro
theorem tw13278035901812629559:True:=.intro
theorem tw5819388687157471383:True:=.intro
theorem tw7772984010862919863:True:=.intro
theorem tw2613252453538229431:True:=.intro
theorem tw8081406644514243799:True:=.intro
theorem tw10377872123370738967:True:=.intro
theorem tw13496439710261717271:True:=.intro
theorem tw9985872759902462231:True:=.intro
theorem tw1380603257740747031:True:=.intro
theorem tw8698995538176490807:True:=.intro
theorem tw15206038149550731575:True:=.intro
theorem tw10337210911683885367:True:=.intro
theorem tw12148476205612329303:True:=.intro
theorem tw10713514956237335895:True:=.intro
theorem tw11103629242632825239:True:=.intro
theorem tw3875347756116275639:True:=.intro
theorem tw14581507641752246807:True:=.intro
theorem tw7300776327751093815:True:=.intro
theorem tw13467491607123823223:True:=.intro
theorem tw17733357136766118647:True:=.intro
theorem tw2050138650814951159:True:=.intro
theorem tw15911073187393818359:True:=.intro
theorem tw6806226272114434807:True:=.intro
theorem tw7005592308662030103:True:=.intro
theorem tw895206269099110231:True:=.intro
theorem tw16007104420967059319:True:=.intro
theorem tw4614843488738994103:True:=.intro
theorem tw15333180490524956631:True:=.intro
theorem tw15371989391324215255:True:=.intro
theorem tw2889873717944700984:True:=.intro
theorem tw13123229718816967832:True:=.intro
theorem tw3780884040549988792:True:=.intro
theorem tw10272598239652504120:True:=.intro
theorem tw14733976081972098680:True:=.intro
theorem tw5250152025438977656:True:=.intro
theorem tw4718193316192495256:True:=.intro
theorem tw13436254461619100312:True:=.intro
theorem tw10923763613408525048:True:=.intro
theorem tw9876384977026772792:True:=.intro
theorem tw15253385551796536184:True:=.intro
theorem tw909698043632796632:True:=.intro
theorem tw9265564328058024920:True:=.intro
theorem tw13918061784607039609:True:=.intro
theorem tw1331399003094000761:True:=.intro
theorem tw11743018674272696537:True:=.intro
theorem tw8804279497187493113:True:=.intro
theorem tw2259974118019363065:True:=.intro
theorem tw18255110671822945561:True:=.intro
theorem tw6400989892623676857:True:=.intro
theorem tw9397314841506932217:True:=.intro
theorem tw7508593023675452953:True:=.intro
theorem tw7606763931054298745:True:=.intro
theorem tw9114481614613859993:True:=.intro
theorem tw6106364018993930969:True:=.intro
theorem tw12110744400611484377:True:=.intro
theorem tw14424548317606161145:True:=.intro
theorem tw16452751357978872601:True:=.intro
theorem tw12463242152488909625:True:=.intro
theorem tw7810808206559499129:True:=.intro
theorem tw15909595833808638905:True:=.intro
theorem tw11318408085684833241:True:=.intro
theorem tw14897464172514672826:True:=.intro
theorem tw17068008727057923258:True:=.intro
theorem tw12121163280838659354:True:=.intro
theorem tw14127567625699014970:True:=.intro
theorem tw4993000395172688282:True:=.intro
theorem tw11399879179749937562:True:=.intro
theorem tw1963500134230321594:True:=.intro
theorem tw9801722952683854266:True:=.intro
theorem tw10642633524350648858:True:=.intro
theorem tw10611517094121139738:True:=.intro
theorem tw6319184986501544602:True:=.intro
theorem tw7749772256803409562:True:=.intro
theorem tw16282532455031413530:True:=.intro
theorem tw8744033426099082074:True:=.intro
theorem tw11207035613893994458:True:=.intro
theorem tw9694482439444464634:True:=.intro
theorem tw5506236673342770235:True:=.intro
theorem tw14610870123352492091:True:=.intro
theorem tw14851534576352275643:True:=.intro
theorem tw7708861277607325915:True:=.intro
theorem tw3969414664635772315:True:=.intro
theorem tw12380942852573727163:True:=.intro
theorem tw7218027811307408827:True:=.intro
theorem tw7764406532312981051:True:=.intro
theorem tw309886348737899323:True:=.intro
theorem tw15747265801680137051:True:=.intro
theorem tw11001235434684164027:True:=.intro
theorem tw8410041640043919323:True:=.intro
theorem tw5763495988202278907:True:=.intro
theorem tw5445513146348372124:True:=.intro
theorem tw9459885445712515260:True:=.intro
theorem tw2995438689014848700:True:=.intro
theorem tw11142511349593767228:True:=.intro
theorem tw291673674899820956:True:=.intro
theorem tw2511532620351336892:True:=.intro
theorem tw17774338716258743772:True:=.intro
theorem tw5854946930868858364:True:=.intro
theorem tw737914320446518876:True:=.intro
theorem tw4759825828219092636:True:=.intro
theorem tw3781468007318159004:True:=.intro
theorem tw3986762190852011708:True:=.intro
theorem tw6350690656662123228:True:=.intro
theorem tw7991119869206397692:True:=.intro
theorem tw12373296085580036028:True:=.intro
theorem tw16599450676350928860:True:=.intro
theorem tw15339023561287599068:True:=.intro
theorem tw8586508932465309660:True:=.intro
theorem tw13332771245958103036:True:=.intro
theorem tw2072560261033175069:True:=.intro
theorem tw14091927016190300285:True:=.intro
theorem tw5623232840503273821:True:=.intro
theorem tw7029575575069954493:True:=.intro
theorem tw1464246644630044285:True:=.intro
theorem tw5981248200746577533:True:=.intro
theorem tw8740688655882618525:True:=.intro
theorem tw5048451650148532957:True:=.intro
theorem tw11356505243252888285:True:=.intro
theorem tw15560380102359518973:True:=.intro
theorem tw4635753641384770333:True:=.intro
theorem tw10834966979413993277:True:=.intro
theorem tw3111835551841319837:True:=.intro
theorem tw9692395099084816317:True:=.intro
theorem tw1002563979561304029:True:=.intro
theorem tw10424555080434977822:True:=.intro
theorem tw1227226996342346782:True:=.intro
theorem tw794150125852381310:True:=.intro
theorem tw14622781098609680510:True:=.intro
theorem tw14346768583079204126:True:=.intro
theorem tw6418315312995131678:True:=.intro
theorem tw12492314464777094526:True:=.intro
theorem tw8312606553580384638:True:=.intro
theorem tw17037029673276921278:True:=.intro
theorem tw2572372054266021406:True:=.intro
theorem tw3605156148827831838:True:=.intro
theorem tw8746852365960527422:True:=.intro
theorem tw4777585634837972574:True:=.intro
theorem tw8194382907294673598:True:=.intro
theorem tw5574460025694883742:True:=.intro
theorem tw2392285298366207902:True:=.intro
theorem tw13952200084364739550:True:=.intro
theorem tw2779781810720791550:True:=.intro
theorem tw14551345441664691231:True:=.intro
theorem tw10478661061630439487:True:=.intro
theorem tw1027147569233197119:True:=.intro
theorem tw2656715610297234527:True:=.intro
theorem tw6698819123156268159:True:=.intro
theorem tw6735436322145275007:True:=.intro
theorem tw16390379858343702719:True:=.intro
theorem tw12238414372412998975:True:=.intro
theorem tw8640867760268049823:True:=.intro
theorem tw7461478813336801727:True:=.intro
theorem tw8432768408707109311:True:=.intro
theorem tw10539445866130552287:True:=.intro
theorem tw13514265189979590175:True:=.intro
theorem tw4090922050893168159:True:=.intro
theorem tw11542059032939701855:True:=.intro
theorem tw11456936957849249407:True:=.intro
theorem tw14271083123581775551:True:=.intro
theorem tw5446683196490821311:True:=.intro
theorem tw7524443613366069055:True:=.intro
theorem tw6270868495942317887:True:=.intro
theorem tw16435189267768700799:True:=.intro
theorem tw11299296354539800479:True:=.intro
theorem tw6574547346328340383:True:=.intro
theorem tw16895965093247381407:True:=.intro
theorem tw4729501936277476319:True:=.intro
theorem tw10041209932197547007:True:=.intro
end PySem.W.Fast
open PySem PySem.W PyProof.Rows
set_option maxRecDepth 100000 in
set_option maxHeartbeats 0 in
theorem PySem.Challenge.cw_deeprests_k83_desk_answers_holds : PySem.Challenge.rw_deeprests_k83_desk_answers.Holds := by
 w_on; o_law; k_head; (case hw => w_witness2)
 k_fill
 refine L2.KL (l := PySem.Challenge.rw_deeprests_k83_desk_answers) (k := 72) (CX := fun _ => L2.cY) rfl rfl ⟨rfl,by decide,by decide⟩ (fun w h Y => PySem.W.kIn_of Y) (fun _ _ _ _ _ z => z) ?F
 case F =>
  intro w mg fa h KX G hmg
  refine' K83.all_mk KX G hmg ?a1 ?l1 ?c1 ?k1 ?a2 ?l2 ?c2 ?k2 ?a3 ?l3 ?c3 ?k3 ?a4 ?l4 ?c4 ?k4 ?a5 ?l5 ?c5 ?k5 ?a6 ?l6 ?c6 ?k6 ?a7 ?l7 ?c7 ?k7 ?a8 ?l8 ?c8 ?k8 ?a9 ?l9 ?c9 ?k9 ?a10 ?l10 ?c10 ?k10 ?a11 ?l11 ?c11 ?k11 ?a12 ?l12 ?c12 ?k12 ?a13 ?l13 ?c13 ?k13 ?a14 ?l14 ?c14 ?k14 ?a15 ?l15 ?c15 ?k15 ?a16 ?l16 ?c16 ?k16 ?a17 ?l17 ?c17 ?k17 ?a18 ?l18 ?c18 ?k18 ?a19 ?l19 ?c19 ?k19 ?a20 ?l20 ?c20 ?k20 ?a21 ?l21 ?c21 ?k21 ?a22 ?l22 ?c22 ?k22 ?a23 ?l23 ?c23 ?k23 ?a24 ?l24 ?c24 ?k24 ?a25 ?l25 ?c25 ?k25 ?a26 ?l26 ?c26 ?k26 ?a27 ?l27 ?c27 ?k27 ?a28 ?l28 ?c28 ?k28 ?a29 ?l29 ?c29 ?k29 ?a30 ?l30 ?c30 ?k30 ?a31 ?l31 ?c31 ?k31 ?a32 ?l32 ?c32 ?k32 ?a33 ?l33 ?c33 ?k33 ?a34 ?l34 ?c34 ?k34 ?a35 ?l35 ?c35 ?k35 ?a36 ?l36 ?c36 ?k36 ?a37 ?l37 ?c37 ?k37 ?a38 ?l38 ?c38 ?k38 ?a39 ?l39 ?c39 ?k39 ?a40 ?l40 ?c40 ?k40 ?a41 ?l41 ?c41 ?k41 ?a42 ?l42 ?c42 ?k42 ?a43 ?l43 ?c43 ?k43 ?a44 ?l44 ?c44 ?k44 ?a45 ?l45 ?c45 ?k45 ?a46 ?l46 ?c46 ?k46 ?a47 ?l47 ?c47 ?k47 ?a48 ?l48 ?c48 ?k48 ?a49 ?l49 ?c49 ?k49 ?a50 ?l50 ?c50 ?k50 ?l51 ?c51 ?k51 ?n51 ?l52 ?c52 ?k52 ?n52 ?l53 ?c53 ?k53 ?n53 ?l54 ?c54 ?k54 ?n54 ?l55 ?c55 ?k55 ?n55 ?a56 ?l56 ?c56 ?k56 ?a57 ?l57 ?c57 ?k57 ?a58 ?l58 ?c58 ?k58 ?a59 ?l59 ?c59 ?k59 ?a60 ?l60 ?c60 ?k60 ?a61 ?l61 ?c61 ?k61 ?a62 ?l62 ?c62 ?k62 ?a63 ?l63 ?c63 ?k63 ?a64 ?l64 ?c64 ?k64 ?a65 ?l65 ?c65 ?k65 ?a66 ?l66 ?c66 ?k66 ?z_abs ?z_all ?z_bool ?z_enumerate ?z_int ?z_isinstance ?z_len ?z_list ?z_max ?z_min ?z_range ?z_reversed ?z_sorted ?z_str ?z_sum ?z_zip ?z_FIGURES ?z_GREATEST_DEPTH ?z_GREATEST_PRIME ?z_LETTERS ?z_MOST_FIGURES ?z_MOST_LETTERS ?z_MOST_NUMBERS ?lS ?lR ?sA ?si ?sC ?sj ?Ai ?Aj ?Ak ?Al ?Am ?An ?Ao ?Ap ?Aq ?As ?Au ?Av ?Aw ?mV ?lX ?mW ?lW ?mY ?md ?lY ?kT ?mX ?lZ ?kS ?ma ?z_Desk ?z_NoDepth ?z_NoInverse ?z_NoName ?z_NoParts ?z_NoPrime ?z_NoRow ?z_NoSingle ?z_NoSmall ?z_NoText ?z_RestError ?z_TooDeep ?z_TooGreat ?oa ?qf ?rY ?rZ ?qg ?iO ?ie ?iP ?iQ ?rf ?pG ?rg ?rh ?ki ?d9 ?mk_Desk ?kc_Desk ?ng ?kX ?a51 ?a52 ?a53 ?a54 ?a55
  (case a1|l1|c1|k1|a2|l2|c2|k2|a3|l3|c3|k3|a4|l4|c4|k4|a5|l5|c5|k5|a6|l6|c6|k6|a7|l7|c7|k7|a8|l8|c8|k8|a9|l9|c9|k9|a10|l10|c10|k10=>k_is)
  (case a11|l11|c11|k11|a12|l12|c12|k12|a13|l13|c13|k13|a14|l14|c14|k14|a15|l15|c15|k15|a16|l16|c16|k16|a17|l17|c17|k17|a18|l18|c18|k18|a19|l19|c19|k19|a20|l20|c20|k20=>k_is)
  (case a21|l21|c21|k21|a22|l22|c22|k22|a23|l23|c23|k23|a24|l24|c24|k24|a25|l25|c25|k25|a26|l26|c26|k26|a27|l27|c27|k27|a28|l28|c28|k28|a29|l29|c29|k29|a30|l30|c30|k30=>k_is)
  (case a31|l31|c31|k31|a32|l32|c32|k32|a33|l33|c33|k33|a34|l34|c34|k34|a35|l35|c35|k35|a36|l36|c36|k36|a37|l37|c37|k37|a38|l38|c38|k38|a39|l39|c39|k39|a40|l40|c40|k40=>k_is)
  (case a41|l41|c41|k41|a42|l42|c42|k42|a43|l43|c43|k43|a44|l44|c44|k44|a45|l45|c45|k45|a46|l46|c46|k46|a47|l47|c47|k47|a48|l48|c48|k48|a49|l49|c49|k49|a50|l50|c50|k50=>k_is)
  (case a56|l56|c56|k56|a57|l57|c57|k57|a58|l58|c58|k58|a59|l59|c59|k59|a60|l60|c60|k60|a61|l61|c61|k61|a62|l62|c62|k62|a63|l63|c63|k63|a64|l64|c64|k64|a65|l65|c65|k65=>k_is)
  (case a66|l66|c66|k66|z_abs=>k_is)
  (case z_all=>kernel_rfl)
  (case z_bool|z_enumerate|z_int|z_isinstance|z_len|z_list|z_max|z_min|z_range|z_reversed|z_sorted|z_str|z_sum|z_zip|z_FIGURES|z_GREATEST_DEPTH|z_GREATEST_PRIME|z_LETTERS|z_MOST_FIGURES|z_MOST_LETTERS|z_MOST_NUMBERS|z_Desk|z_NoDepth|z_NoInverse|z_NoName|z_NoParts|z_NoPrime|z_NoRow|z_NoSingle|z_NoSmall|z_NoText|z_RestError|z_TooDeep|z_TooGreat=>k_is)
  (case oa => show PySem.W.excIn _ _ _ _ = true; kernel_rfl)
  (case qf => show PySem.W.excIn _ _ _ _ = true; kernel_rfl)
  (case rY => show PySem.W.excIn _ _ _ _ = true; kernel_rfl)
  (case rZ => show PySem.W.excIn _ _ _ _ = true; kernel_rfl)
  (case qg => show PySem.W.excIn _ _ _ _ = true; kernel_rfl)
  (case iO|ie|iP|iQ=>kernel_rfl)
  (case rf => exact ⟨by k_is,by k_is,by k_is,by k_is,by k_is,by k_is,by k_is,by k_is⟩)
  (case pG => exact ⟨by k_is,by k_is,by k_is,by k_is,by k_is,by k_is,by k_is,by k_is⟩)
  (case rg => exact ⟨by k_is,by k_is,by k_is,by k_is,by k_is,by k_is,by k_is,by k_is⟩)
  (case rh => exact ⟨by k_is,by k_is,by k_is,by k_is,by k_is,by k_is,by k_is,by k_is⟩)
  (case ki=>kernel_rfl)
  (case lS => exact ⟨⟨_,by k_is⟩,by decide,by decide⟩)
  (case lR=>k_is)
  (case sA => exact ⟨⟨_,by k_is⟩,by decide,by decide⟩)
  (case si=>k_is)
  (case sC => exact ⟨⟨_,by k_is⟩,by decide,by decide⟩)
  (case sj=>k_is)
  (case Ai => exact ⟨_,_,_,by k_is,rfl,rfl,by decide,.cons ⟨_,rfl⟩ (.cons ⟨_,rfl⟩ (.nil))⟩)
  (case Aj => exact ⟨_,_,_,by k_is,rfl,rfl,by decide,.cons ⟨_,rfl⟩ (.cons ⟨_,rfl⟩ (.cons ⟨_,rfl⟩ (.nil)))⟩)
  (case Ak => exact ⟨_,_,_,by k_is,rfl,rfl,by decide,.cons ⟨_,rfl⟩ (.cons ⟨_,rfl⟩ (.cons ⟨_,rfl⟩ (.cons ⟨_,rfl⟩ (.nil))))⟩)
  (case Al => exact ⟨_,_,_,by k_is,rfl,rfl,by decide,.cons ⟨_,rfl⟩ (.cons ⟨_,rfl⟩ (.nil))⟩)
  (case Am => exact ⟨_,_,_,by k_is,rfl,rfl,by decide,.cons ⟨_,rfl⟩ (.nil)⟩)
  (case An => exact ⟨_,_,_,by k_is,rfl,rfl,by decide,.cons ⟨_,rfl⟩ (.nil)⟩)
  (case Ao => exact ⟨_,_,_,by k_is,rfl,rfl,by decide,.cons ⟨_,rfl⟩ (.cons ⟨_,rfl⟩ (.nil))⟩)
  (case Ap => exact ⟨_,_,_,by k_is,rfl,rfl,by decide,.cons ⟨_,rfl⟩ (.cons ⟨_,rfl⟩ (.nil))⟩)
  (case Aq => exact ⟨_,_,_,by k_is,rfl,rfl,by decide,.cons ⟨_,rfl⟩ (.cons ⟨_,rfl⟩ (.nil))⟩)
  (case As => exact ⟨_,_,_,by k_is,rfl,rfl,by decide,.cons ⟨_,rfl⟩ (.cons ⟨_,rfl⟩ (.cons ⟨_,rfl⟩ (.nil)))⟩)
  (case Au => exact ⟨_,_,_,by k_is,rfl,rfl,by decide,.cons ⟨_,rfl⟩ (.cons ⟨_,rfl⟩ (.nil))⟩)
  (case Av => exact ⟨_,_,_,by k_is,rfl,rfl,by decide,.cons ⟨_,rfl⟩ (.nil)⟩)
  (case Aw => exact ⟨_,_,_,by k_is,rfl,rfl,by decide,.cons ⟨_,rfl⟩ (.cons ⟨_,rfl⟩ (.cons ⟨_,rfl⟩ (.nil)))⟩)
  (case mV|lX|mW|lW|mY|md|lY|kT|mX|lZ|kS|ma=>k_is)
  (case d9 => exact ⟨by kernel_rfl,by kernel_rfl,by kernel_rfl,by k_is⟩)
  (case mk_Desk=>kernel_rfl)
  (case kc_Desk=>k_is)
  (case ng => show PySem.W.findIn _ _ _ = some none; kernel_rfl)
  (case kX => show PySem.W.findIn _ _ _ = some none; kernel_rfl)
  (case a51|l51|c51|k51=>k_is)
  (case n51=>kernel_rfl)
  (case a52|l52|c52|k52=>k_is)
  (case n52=>kernel_rfl)
  (case a53|l53|c53|k53=>k_is)
  (case n53=>kernel_rfl)
  (case a54|l54|c54|k54=>k_is)
  (case n54=>kernel_rfl)
  (case a55|l55|c55|k55=>k_is)
  (case n55=>kernel_rfl)